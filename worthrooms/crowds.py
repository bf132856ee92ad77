"""Crowds: hands that look for homes of their own, and papers of such as find too few."""

from worthrooms.rooms import names_of, rooms_by_hand
from worthrooms.towns import is_pair
from worthrooms.walls import are_homes, are_walls, fence_wrong, walls_of


def move_along(home, wanted, name):
    """Let who wants the home have it, who wants the one left so have that, and so on."""
    while name is not None:
        hand = wanted[name]
        vacated = home.get(hand)
        home[hand] = name
        name = vacated


def crowd_around(choices, home, start):
    """Find a home for the one that starts, others moving to make way, and tell [].

    Where that can't be, tell it and all who would have to move: together they have fewer choices than they are.
    """
    holder = {name: other for other, name in home.items()}
    wanted = {}
    crowd = [start]
    at = 0
    while at < len(crowd):
        hand = crowd[at]
        for name in choices[hand]:
            if name not in wanted:
                wanted[name] = hand
                if name not in holder:
                    move_along(home, wanted, name)
                    return []
                crowd.append(holder[name])
        at += 1
    return crowd


def homes_found(choices):
    """Map each hand to a home of its own among its choices; tell beside it the crowd that keeps this from being."""
    home = {}
    for hand in choices:
        crowd = crowd_around(choices, home, hand)
        if crowd != []:
            return (home, sorted(crowd))
    return (home, [])


def can_have(choices, home, hand, name):
    """Tell whether all can find homes with this hand in this one; the dict tells one way for all to find some."""
    moved = {other: there for other, there in home.items() if there != name}
    moved[hand] = name
    for other in home:
        if other not in moved:
            return crowd_around({**choices, hand: [name]}, moved, other) == []
    return True


def stands_at(town, home):
    """Tell the STANDS with each hand of the dict in its home."""
    there = {name: hand for hand, name in home.items()}
    return tuple([there.get(name, "") for name, _ in town[0]])


def crowd_paper(town, standing, hands):
    """Tell all shut rooms as walls, and a list of the hands with their rooms as fences."""
    room = rooms_by_hand(town, standing)
    return (walls_of(town, standing), [(hand, names_of(town, room[hand])) for hand in hands])


def is_crowd_paper(town, thing):
    """Tell whether the thing is a tuple of walls and a list of pairs of whatever and a fence, all by form."""
    homes = {name: True for name, _ in town[0]}
    if not is_pair(thing) or not are_walls(homes, thing[0]) or not isinstance(thing[1], list):
        return False
    return all(is_pair(entry) and are_homes(homes, entry[1]) for entry in thing[1])


def fenced_hands(paper):
    """List the hands of which the paper has fences."""
    return [hand for hand, _ in paper[1]]


def are_unlike_hands(hands, thing):
    """Tell whether the thing is a list, not [], of unlike ones of the hands."""
    if not isinstance(thing, list) or thing == []:
        return False
    return all(isinstance(hand, str) and hand in hands for hand in thing) and len(set(thing)) == len(thing)


def crowd_wrong(town, standing, paper):
    """Tell None where each fence with the walls is right, else the fault of the first that isn't."""
    walls, fences = paper
    for hand, fenced in fences:
        wrong = fence_wrong(town, standing, hand, (walls, fenced))
        if wrong is not None:
            return wrong
    return None
