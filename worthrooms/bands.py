"""Bands: how far a hand's wealth may change while just the same STANDS can come about."""

from worthrooms.counts import first_with
from worthrooms.errors import Unlike
from worthrooms.rooms import first_outside, names_of, rooms_by_hand
from worthrooms.towns import are_stands, check_standing, hands_at, is_pair, place_of_hand, wealth_by_hand
from worthrooms.walls import roads_out


def dearest(town, places):
    """Tell the greatest worth of the homes at the places."""
    return max([town[0][place][1] for place in places])


def rim_of(town, places, wealth):
    """Tell the least worth above the wealth to which a road leads out of the places, None where there is none."""
    worths = {name: worth for name, worth in town[0]}
    found = [worths[far] for _, far in roads_out(town, names_of(town, places)) if worths[far] > wealth]
    return min(found, default=None)


def bands(town, standing):
    """Map each hand, in order, to its band."""
    wealth = wealth_by_hand(town, standing)
    found = {}
    for hand, places in rooms_by_hand(town, standing).items():
        found[hand] = (dearest(town, places), rim_of(town, places, wealth[hand]))
    return found


def band(town, standing, hand):
    """Tell from which wealth on and below which one the hand has its room."""
    check_standing(town, standing)
    place_of_hand(standing, hand)
    return bands(town, standing)[hand]


def stripped(town, standing):
    """Tell the standing in which each hand has only the coins that its room asks for."""
    check_standing(town, standing)
    tops = {hand: top for hand, (top, _) in bands(town, standing).items()}
    return tuple([(there[0], tops[there[0]] - worth) if there else () for (_, worth), there in zip(town[0], standing)])


def check_alike(town, one, other):
    """Refuse what is no standing of the town, and two that have not the same STANDS."""
    check_standing(town, one)
    check_standing(town, other)
    if hands_at(one) != hands_at(other):
        raise Unlike()


def alike(town, one, other):
    """Tell whether just the same STANDS can come about from both, else such as do from one alone."""
    check_alike(town, one, other)
    room, other_room = rooms_by_hand(town, one), rooms_by_hand(town, other)
    for mine, theirs in ((room, other_room), (other_room, room)):
        for hand, places in mine.items():
            for place in places:
                if place not in theirs[hand]:
                    return ("apart", first_with(town, mine, {hand: place}))
    return ("alike",)


def is_apart_paper(town, standing, thing):
    """Tell whether the thing is ("apart", STANDS) by form."""
    if not is_pair(thing) or thing[0] != "apart":
        return False
    return are_stands(town, list(wealth_by_hand(town, standing)), thing[1])


def out_of_band(town, one, other):
    """Tell the first hand, in order, whose wealth in the other standing is out of its band, None of none."""
    wealth = wealth_by_hand(town, other)
    for hand, (top, rim) in bands(town, one).items():
        if wealth[hand] < top or (rim is not None and wealth[hand] >= rim):
            return hand
    return None


def alike_wrong(town, one, other, thing):
    """Tell None of what shows whether just the same STANDS can come about from both, else the first fault."""
    check_alike(town, one, other)
    if thing == ("alike",):
        hand = out_of_band(town, one, other)
        return None if hand is None else ("band", hand)
    if not is_apart_paper(town, one, thing):
        return ("paper",)
    stands = thing[1]
    ways = [first_outside(rooms_by_hand(town, standing), stands) is None for standing in (one, other)]
    return None if ways[0] != ways[1] else ("apart",)
