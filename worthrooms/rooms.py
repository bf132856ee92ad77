"""Rooms: the sets of homes in which hands stay, whatever is exchanged."""

from worthrooms.towns import check_standing, check_stands, place_of_hand, wealth_by_hand


def afforded(wealth, worth):
    """Tell whether the wealth, None of an empty home, is the worth or more."""
    return wealth is None or wealth >= worth


def wealths_by_place(town, standing):
    """List place by place the wealth of the hand that stands there, None where it is empty."""
    return [there[1] + worth if there else None for (_, worth), there in zip(town[0], standing)]


def neighbours(town):
    """List place by place the places of the neighbours."""
    homes, roads = town
    place = {name: k for k, (name, _) in enumerate(homes)}
    found = [[] for _ in homes]
    for one, other in roads:
        found[place[one]].append(place[other])
        found[place[other]].append(place[one])
    return found


def flooded(ties, start, inside):
    """List in order the places that hang together with the start over places inside alone."""
    seen = {start: True}
    todo = [start]
    while todo:
        place = todo.pop()
        for other in ties[place]:
            if other in inside and other not in seen:
                seen[other] = True
                todo.append(other)
    return sorted(seen)


def parts(ties, places):
    """List the parts of the places, told in order, that hang together, each in order, by their first places."""
    inside = {place: True for place in places}
    seen = set()
    found = []
    for start in places:
        if start not in seen:
            part = flooded(ties, start, inside)
            found.append(part)
            for place in part:
                seen.add(place)
    return found


def is_shut(wealth, places, dearer):
    """Tell whether nothing at the places affords the next worth, None of the last level."""
    return dearer is not None and not any(afforded(wealth[place], dearer) for place in places)


def levels(town, standing):
    """Map each worth, rising, to the rooms of its level, in order, each as (places, whether it is shut)."""
    homes = town[0]
    ties = neighbours(town)
    wealth = wealths_by_place(town, standing)
    worths = sorted({worth for _, worth in homes})
    found = {}
    left = []
    for worth, dearer in zip(worths, worths[1:] + [None]):
        # Open rooms hang together by roads of their own, so the knots of a level need not be told apart.
        places = sorted(left + [place for place, (_, here) in enumerate(homes) if here == worth])
        found[worth] = [(part, is_shut(wealth, part, dearer)) for part in parts(ties, places)]
        left = [place for part, shut in found[worth] if not shut for place in part]
    return found


def names_of(town, places):
    """List the names of the homes at the places."""
    return [town[0][place][0] for place in places]


def rooms(town, standing):
    """List the rooms of all levels, each set of homes once, as tuples of their names and a word."""
    check_standing(town, standing)
    dearest = max(worth for _, worth in town[0])
    words = {}
    for worth, level in levels(town, standing).items():
        open_word = "last" if worth == dearest else "within"
        for places, shut in level:
            # A set of homes may be a room of several levels: the word of the greatest one is told.
            words[tuple(places)] = "shut" if shut else open_word
    return [(names_of(town, places), words[places]) for places in sorted(words)]


def rooms_by_hand(town, standing):
    """Map each hand, in order, to the places of its room."""
    wealth = wealth_by_hand(town, standing)
    found = {}
    for worth, level in levels(town, standing).items():
        for places, _ in level:
            for place in places:
                there = standing[place]
                if there and wealth[there[0]] >= worth:
                    found[there[0]] = places
    return {hand: found[hand] for hand in wealth}


def first_outside(room, stands):
    """Tell the first hand, in order, that the STANDS put out of its room, None where each is in its own."""
    for hand, places in room.items():
        if stands.index(hand) not in places:
            return hand
    return None


def room_of(town, standing, hand):
    """List the names of the homes in the room of the hand."""
    check_standing(town, standing)
    place_of_hand(standing, hand)
    return names_of(town, rooms_by_hand(town, standing)[hand])


def in_lot(town, standing, stands):
    """Tell whether rows lead from the standing to one in which they stand so."""
    check_stands(town, standing, stands)
    return first_outside(rooms_by_hand(town, standing), stands) is None
