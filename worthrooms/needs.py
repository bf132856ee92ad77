"""Needs: which roads are wanted, and which hands another one needs to come to a home."""

from worthrooms.errors import Barred, Needed, NoHand
from worthrooms.exchanges import road_ends
from worthrooms.rooms import names_of, rooms_by_hand
from worthrooms.towns import check_standing, place_of_hand, place_of_home, wealth_by_hand
from worthrooms.walls import fence
from worthrooms.ways import bring, tree_of


def greatest_rooms(room):
    """List the rooms of the hands that lie in no greater one, each once."""
    found = []
    for places in sorted(room.values(), key=len, reverse=True):
        # Two rooms of hands lie one within the other or apart, so one home tells which.
        if not any([places[0] in greater for greater in found]):
            found.append(places)
    return found


def roads_wanted(town, standing):
    """List roads, as few as can be, with which alone just the same STANDS can come about."""
    check_standing(town, standing)
    ends = road_ends(town)
    tree = tree_of(town, standing)
    greatest = greatest_rooms(rooms_by_hand(town, standing))
    found = []
    for road in town[1]:
        one, other = ends[road]
        if other in tree[one] and any([one in places and other in places for places in greatest]):
            found.append(road)
    return found


def are_roads(town, thing):
    """Tell whether the thing is a list of roads of the town, each at most once, in its order."""
    if not isinstance(thing, list):
        return False
    at = 0
    for road in town[1]:
        if at < len(thing) and thing[at] == road:
            at += 1
    return at == len(thing)


def roads_wrong(town, standing, thing):
    """Tell None of such a list of roads, of anything else the first that isn't so."""
    check_standing(town, standing)
    if not are_roads(town, thing):
        return ("paper",)
    room = rooms_by_hand(town, standing)
    changed = rooms_by_hand((town[0], tuple(thing)), standing)
    for hand, places in room.items():
        if changed[hand] != places:
            return ("room", hand)
    wanted = sum([len(places) - 1 for places in greatest_rooms(room)])
    return None if len(thing) <= wanted else ("many", len(thing) - wanted)


def without(town, standing, hand):
    """Tell the town and the standing without the home of the hand and the roads there."""
    homes, roads = town
    place = place_of_hand(standing, hand)
    name = homes[place][0]
    left = tuple([road for road in roads if name not in road])
    return ((homes[:place] + homes[place + 1:], left), standing[:place] + standing[place + 1:])


def can_come(town, standing, hand, home):
    """Tell whether the hand can come to the home."""
    return home in names_of(town, rooms_by_hand(town, standing)[hand])


def stands_in(town, standing, hand, home):
    """Tell whether the hand stands in the home."""
    return town[0][place_of_hand(standing, hand)][0] == home


def needs(town, standing, hand, home, other):
    """Tell whether the hand can't come to the home without the other one."""
    if stands_in(town, standing, other, home):
        return True
    rest, stood = without(town, standing, other)
    return not can_come(rest, stood, hand, home)


def check_can_come(town, standing, hand, home):
    """Refuse a home to which the hand never comes."""
    if not can_come(town, standing, hand, home):
        raise Barred(fence(town, standing, hand))


def needed(town, standing, hand, home):
    """List, in order, all hands without which the hand can't come to the home."""
    check_standing(town, standing)
    place_of_hand(standing, hand)
    place_of_home(town, home)
    check_can_come(town, standing, hand, home)
    hands = wealth_by_hand(town, standing)
    return [other for other in hands if other != hand and needs(town, standing, hand, home, other)]


def beside(town, standing, hand, home, other):
    """Tell a row that brings the hand to the home while the other one stays where it is."""
    check_standing(town, standing)
    place_of_hand(standing, hand)
    place_of_hand(standing, other)
    if other == hand:
        raise NoHand(other)
    place_of_home(town, home)
    check_can_come(town, standing, hand, home)
    if stands_in(town, standing, other, home):
        raise Needed()
    rest, stood = without(town, standing, other)
    if not can_come(rest, stood, hand, home):
        raise Needed(fence(rest, stood, hand))
    _, row = bring(rest, stood, hand, home)
    return row
