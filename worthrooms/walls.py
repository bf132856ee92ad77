"""Walls and fences: papers that show where a hand never comes, and their judge."""

from worthrooms.rooms import afforded, levels, names_of, rooms_by_hand, wealths_by_place
from worthrooms.towns import check_standing, is_pair, place_of_hand


def are_homes(homes, thing):
    """Tell whether the thing is a list of unlike names that the dict of homes has."""
    if not isinstance(thing, list):
        return False
    if not all(isinstance(name, str) and name in homes for name in thing):
        return False
    return len(set(thing)) == len(thing)


def are_walls(homes, thing):
    """Tell whether the thing is a list of walls by form, of names that the dict of homes has."""
    return isinstance(thing, list) and all(are_homes(homes, wall) and wall != [] for wall in thing)


def roads_out(town, names):
    """List the roads out of the homes of these names, the near end first, by the town's roads in order."""
    inside = {name: True for name in names}
    found = []
    for one, other in town[1]:
        if one in inside and other not in inside:
            found.append((one, other))
        elif other in inside and one not in inside:
            found.append((other, one))
    return found


def first_way_out(town, names, barred, wealth):
    """Tell the first road out that is not barred and that this wealth affords, None where there is none."""
    worths = {name: worth for name, worth in town[0]}
    for near, far in roads_out(town, names):
        if (near, far) not in barred and afforded(wealth, worths[far]):
            return (near, far)
    return None


def greatest(found):
    """Tell the greatest of the wealths, None where one is endless."""
    if None in found:
        return None
    return max(found)


def walls_wrong(town, wealth, walls, barred):
    """Tell ("wall", k, near, far) of the first fault of the walls; note in barred the roads that they bar."""
    for k, wall in enumerate(walls):
        out = first_way_out(town, wall, barred, greatest([wealth[name] for name in wall]))
        if out is not None:
            near, far = out
            return ("wall", k, near, far)
        for near, far in roads_out(town, wall):
            # A wall bars the way in, which is its road out taken from the other end.
            barred[(far, near)] = True
    return None


def walls_of(town, standing):
    """List all shut rooms as walls, level by level."""
    walls = []
    for level in levels(town, standing).values():
        for places, shut in level:
            if shut:
                walls.append(names_of(town, places))
    return walls


def fence(town, standing, hand):
    """Tell all shut rooms as walls and the room of the hand as its fence."""
    check_standing(town, standing)
    place_of_hand(standing, hand)
    return (walls_of(town, standing), names_of(town, rooms_by_hand(town, standing)[hand]))


def fence_wrong(town, standing, hand, thing):
    """Tell None of walls and a fence of the hand that are right, of anything else the first that isn't so."""
    check_standing(town, standing)
    home = town[0][place_of_hand(standing, hand)][0]
    wealth = {name: means for (name, _), means in zip(town[0], wealths_by_place(town, standing))}
    if not is_pair(thing) or not are_walls(wealth, thing[0]) or not are_homes(wealth, thing[1]):
        return ("paper",)
    walls, names = thing
    barred = {}
    wrong = walls_wrong(town, wealth, walls, barred)
    if wrong is not None:
        return wrong
    if home not in names:
        return ("home",)
    out = first_way_out(town, names, barred, wealth[home])
    if out is None:
        return None
    near, far = out
    return ("fence", near, far)
