"""Exchanges: two neighbours change places, and who comes to the dearer home pays the other."""

from worthrooms.errors import NoRoad, NoRow, Short
from worthrooms.towns import check_standing, is_text_pair


def road_ends(town):
    """Map each road, as a pair of names either way about, to the places of these homes."""
    homes, roads = town
    place = {name: k for k, (name, _) in enumerate(homes)}
    ends = {}
    for near, far in roads:
        ends[(near, far)] = (place[near], place[far])
        ends[(far, near)] = (place[far], place[near])
    return ends


def shortage(homes, here, one, other):
    """Tell (hand, lacks) of who can't pay for the exchange of two places, None where it may be done."""
    rise = homes[other][1] - homes[one][1]
    there = here[one] if rise > 0 else here[other]
    if there == () or there[1] >= abs(rise):
        return None
    hand, coins = there
    return (hand, abs(rise) - coins)


def moved(there, rise):
    """Tell what stands in a home worth rise more, once it has come there."""
    # Nobody pays or is paid for an empty home, so that coins hang on the hand's own place alone.
    if there == ():
        return ()
    hand, coins = there
    return (hand, coins - rise)


def exchange(homes, here, one, other):
    """Let what stands in the two places change them, in the list handed in."""
    rise = homes[other][1] - homes[one][1]
    here[one], here[other] = moved(here[other], -rise), moved(here[one], rise)


def stuck(town, here, row):
    """Do the exchanges of the row in the list handed in, up to the first that can't be done; tell its place."""
    homes = town[0]
    ends = road_ends(town)
    for at, pair in enumerate(row):
        if not is_text_pair(pair) or pair not in ends:
            return at
        one, other = ends[pair]
        if shortage(homes, here, one, other) is not None:
            return at
        exchange(homes, here, one, other)
    return None


def exchanged(town, standing, pair):
    """Tell the standing behind the exchange of the pair."""
    return gone(town, standing, [pair])


def gone(town, standing, row):
    """Tell the standing behind all exchanges of the row, one by one."""
    check_standing(town, standing)
    if not isinstance(row, list):
        raise NoRow()
    here = list(standing)
    at = stuck(town, here, row)
    if at is None:
        return tuple(here)
    pair = row[at]
    ends = road_ends(town)
    if not is_text_pair(pair) or pair not in ends:
        raise NoRoad(pair, at)
    one, other = ends[pair]
    hand, lacks = shortage(town[0], here, one, other)
    raise Short(hand, lacks, at)


def may(town, standing):
    """Tell the roads of the town, in its order, by which an exchange may be done."""
    check_standing(town, standing)
    homes, roads = town
    ends = road_ends(town)
    found = []
    for road in roads:
        one, other = ends[road]
        if shortage(homes, standing, one, other) is None:
            found.append(road)
    return found
