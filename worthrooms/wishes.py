"""Wishes: hands that want to stand in one of some homes, all at once."""

from worthrooms.crowds import are_unlike_hands, can_have, crowd_paper, crowd_wrong, fenced_hands, homes_found
from worthrooms.crowds import is_crowd_paper, stands_at
from worthrooms.rooms import names_of, rooms_by_hand
from worthrooms.towns import are_stands, check_standing, is_pair, place_of_hand, place_of_home, wealth_by_hand
from worthrooms.ways import homes_by_hand


def check_wishes(town, standing, wishes):
    """Refuse what is no town and no standing, then by the dict's order what is no hand and no home."""
    check_standing(town, standing)
    for hand, names in wishes.items():
        place_of_hand(standing, hand)
        for name in names:
            place_of_home(town, name)


def wished(wishes, hand, names):
    """List those of the names that the hand wishes, all where it has no wish."""
    return [name for name in names if hand not in wishes or name in wishes[hand]]


def choices_of(town, standing, wishes):
    """Map each hand, in order, to the homes of its room that it wishes."""
    room = rooms_by_hand(town, standing)
    return {hand: wished(wishes, hand, names_of(town, places)) for hand, places in room.items()}


def granted(town, standing, wishes):
    """Tell STANDS of the lot that grant all wishes, or a crowd that has too few homes for that."""
    check_wishes(town, standing, wishes)
    home, crowd = homes_found(choices_of(town, standing, wishes))
    if crowd != []:
        return ("crowd", crowd_paper(town, standing, crowd))
    return ("granted", stands_at(town, home))


def is_granted_paper(town, hands, thing):
    """Tell whether the thing is ("granted", STANDS) by form."""
    return is_pair(thing) and thing[0] == "granted" and are_stands(town, hands, thing[1])


def is_wishers_paper(town, hands, thing):
    """Tell whether the thing is ("crowd", (walls, fences)) by form."""
    if not is_pair(thing) or thing[0] != "crowd" or not is_crowd_paper(town, thing[1]):
        return False
    return are_unlike_hands(hands, fenced_hands(thing[1]))


def stands_wrong(town, choices, stands):
    """Tell ("stands", HAND) of the first hand that is in none of its choices, None where each is in one."""
    home = homes_by_hand(town, stands)
    for hand, names in choices.items():
        if home[hand] not in names:
            return ("stands", hand)
    return None


def wishers_wrong(town, standing, wishes, paper):
    """Tell None of a crowd that has too few homes for its wishes, else the first fault."""
    wrong = crowd_wrong(town, standing, paper)
    if wrong is not None:
        return wrong
    homes = {name: True for hand, fenced in paper[1] for name in wished(wishes, hand, fenced)}
    return ("many",) if len(homes) >= len(paper[1]) else None


def granted_wrong(town, standing, wishes, thing):
    """Tell None of what shows whether the wishes can be granted, of anything else the first fault."""
    check_wishes(town, standing, wishes)
    hands = list(wealth_by_hand(town, standing))
    if is_granted_paper(town, hands, thing):
        return stands_wrong(town, choices_of(town, standing, wishes), thing[1])
    if is_wishers_paper(town, hands, thing):
        return wishers_wrong(town, standing, wishes, thing[1])
    return ("paper",)


def left(town, standing, wishes):
    """Map each hand, in order, to the homes in which it stands in some STANDS of the lot that grant all wishes."""
    check_wishes(town, standing, wishes)
    choices = choices_of(town, standing, wishes)
    home, crowd = homes_found(choices)
    if crowd != []:
        return {hand: [] for hand in choices}
    found = {}
    for hand, names in choices.items():
        found[hand] = [name for name in names if can_have(choices, home, hand, name)]
    return found


def by_coins(town, standing, coins):
    """Tell the wishes of the hands of the dict to stand where they have so many coins."""
    check_standing(town, standing)
    for hand in coins:
        place_of_hand(standing, hand)
    found = {}
    for hand, means in wealth_by_hand(town, standing).items():
        if hand in coins:
            # Below 0 it would stand in a home that it can't afford, but nobody ever owes.
            asked = coins[hand]
            found[hand] = [name for name, worth in town[0] if asked >= 0 and means - worth == asked]
    return found
