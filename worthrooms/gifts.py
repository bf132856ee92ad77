"""Gifts: how many coins more one hand must have for another one, or itself, to come to a home."""

from worthrooms.rooms import rooms_by_hand
from worthrooms.towns import check_standing, place_of_hand, place_of_home, wealth_by_hand
from worthrooms.ways import bring


def with_more(standing, hand, coins):
    """Tell the standing in which the hand has so many coins more."""
    return tuple([(hand, there[1] + coins) if there != () and there[0] == hand else there for there in standing])


def steps_up(town, standing, hand):
    """List, rising, 0 and the numbers of coins that raise the wealth of the hand to a worth."""
    wealth = wealth_by_hand(town, standing)[hand]
    return [0, *sorted({worth - wealth for _, worth in town[0] if worth > wealth})]


def least_coins(town, standing, hand, other, home):
    """Tell how many coins the hand needs for the other one to come to the home, None where none are enough."""
    check_standing(town, standing)
    place_of_hand(standing, hand)
    place_of_hand(standing, other)
    place = place_of_home(town, home)
    # Rooms change only where a wealth comes to a worth, so no number between two of these is to be tried.
    for coins in steps_up(town, standing, hand):
        if place in rooms_by_hand(town, with_more(standing, hand, coins))[other]:
            return coins
    return None


def least_grant(town, standing, hand, other, home):
    """Tell with how few coins more of the hand the other one can come to the home, or that it never can."""
    coins = least_coins(town, standing, hand, other, home)
    return ("never",) if coins is None else ("least", coins)


def both_papers(town, standing, hand, other, home):
    """Tell what bring tells with the least number of coins more, and with one fewer."""
    coins = least_coins(town, standing, hand, other, home)
    if coins is None:
        richest = steps_up(town, standing, hand)[-1]
        return (bring(town, with_more(standing, hand, richest), other, home), None)
    paper = bring(town, with_more(standing, hand, coins), other, home)
    if coins == 0:
        return (paper, None)
    return (paper, bring(town, with_more(standing, hand, coins - 1), other, home))
