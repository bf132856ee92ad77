"""Ways: short rows of exchanges to what can come about, and papers of what can't."""

from worthrooms.exchanges import road_ends, stuck
from worthrooms.rooms import afforded, first_outside, levels, rooms_by_hand
from worthrooms.towns import check_standing, check_stands, hands_at, is_pair, is_text_pair, place_of_hand
from worthrooms.towns import place_of_home, wealth_by_hand
from worthrooms.walls import fence, fence_wrong


def joined(ends, places, part):
    """List the roads among the places that join unlike parts; note in part that each made one of two."""
    inside = {place: True for place in places}
    found = []
    for one, other in ends:
        if one in inside and other in inside and part[one] != part[other]:
            found.append((one, other))
            old = part[other]
            for place in places:
                if part[place] == old:
                    part[place] = part[one]
    return found


def tree_of(town, standing):
    """List place by place the places tied to it: ties within a room alone hold it together, in no circle."""
    ends = road_ends(town)
    roads = [ends[road] for road in town[1]]
    part = list(range(len(town[0])))
    tree = [[] for _ in town[0]]
    for level in levels(town, standing).values():
        # No road joins two rooms of one level, so they may be looked at together.
        places = [place for room, _ in level for place in room]
        for one, other in joined(roads, places, part):
            tree[one].append(other)
            tree[other].append(one)
    return tree


class Way:
    """A row of exchanges that grows, and who stands where behind it.

    All walk along one tree of roads. So who comes into a cheaper room again comes by the road by which it was left,
    and there still stands one who can afford that road: nobody is to be brought there anew. Hence no walk, with all
    that it calls for, goes along one road more often than the town has unlike worths.
    """

    def __init__(self, town, standing):
        self.homes = town[0]
        self.tree = tree_of(town, standing)
        self.wealth = wealth_by_hand(town, standing)
        self.wealth[""] = None
        self.stands = hands_at(standing)
        self.row = []

    def told(self):
        """List the pairs of names of the row."""
        return [(self.homes[one][0], self.homes[other][0]) for one, other in self.row]

    def step(self, one, other):
        """Exchange two places."""
        self.stands[one], self.stands[other] = self.stands[other], self.stands[one]
        self.row.append((one, other))

    def affords(self, place, worth):
        """Tell whether what stands at the place can afford the worth."""
        return afforded(self.wealth[self.stands[place]], worth)

    def path(self, start, end):
        """List the places along the tree from the start to the end."""
        onward = {end: None}
        todo = [end]
        while start not in onward:
            place = todo.pop()
            for other in self.tree[place]:
                if other not in onward:
                    onward[other] = place
                    todo.append(other)
        found = [start]
        while found[-1] != end:
            found.append(onward[found[-1]])
        return found

    def nearest(self, start, worth):
        """Tell a near place, over cheaper homes than the worth, at which what stands there can afford it."""
        seen = {start: True}
        todo = [start]
        while not self.affords(todo[0], worth):
            place = todo.pop(0)
            for other in self.tree[place]:
                if other not in seen and self.homes[other][1] < worth:
                    seen[other] = True
                    todo.append(other)
        return todo[0]

    def walk(self, start, end):
        """Bring what stands at the start to the end."""
        path = self.path(start, end)
        for near, far in zip(path, path[1:]):
            worth = max(self.homes[near][1], self.homes[far][1])
            if not self.affords(far, worth):
                # It stands in an open room of cheaper homes, so somebody there can come and afford it.
                self.walk(self.nearest(far, worth), far)
            self.step(near, far)

    def swap(self, one, other):
        """Let what stands at two places change them, and leave all else where it is."""
        path = self.path(one, other)
        worths = [self.homes[place][1] for place in path]
        dear = [k for k, worth in enumerate(worths) if worth == max(worths)]
        # They meet at the last of the dearest roads: walks on this side of it leave the other side alone.
        meeting = min(dear[-1], len(path) - 2)
        ahead = len(self.row)
        self.walk(one, path[meeting])
        self.walk(other, path[meeting + 1])
        way = self.row[ahead:]
        self.step(path[meeting], path[meeting + 1])
        for here, there in way[::-1]:
            self.step(here, there)


def homes_by_hand(town, stands):
    """Map each hand to the name of its home in the STANDS."""
    return {hand: name for (name, _), hand in zip(town[0], stands) if hand != ""}


def come(town, standing, stands):
    """Tell a row behind which they stand so, or a hand and a paper that bars its home."""
    check_stands(town, standing, stands)
    room = rooms_by_hand(town, standing)
    outside = first_outside(room, stands)
    if outside is not None:
        return ("barred", outside, fence(town, standing, outside))
    way = Way(town, standing)
    # Hands of small rooms first: then who is in the way has no smaller room, so it may take the place left.
    for hand in sorted(room, key=lambda name: len(room[name])):
        here, there = way.stands.index(hand), stands.index(hand)
        if here != there:
            way.swap(here, there)
    return ("row", way.told())


def bring(town, standing, hand, home):
    """Tell a row behind which the hand stands in the home, or the hand and a paper that bars the home."""
    check_standing(town, standing)
    start = place_of_hand(standing, hand)
    end = place_of_home(town, home)
    if end not in rooms_by_hand(town, standing)[hand]:
        return ("barred", hand, fence(town, standing, hand))
    way = Way(town, standing)
    way.walk(start, end)
    return ("row", way.told())


def are_home_pairs(town, thing):
    """Tell whether the thing is a list of pairs of names of homes."""
    names = {name: True for name, _ in town[0]}
    if not isinstance(thing, list):
        return False
    return all(is_text_pair(pair) and pair[0] in names and pair[1] in names for pair in thing)


def is_row_paper(town, thing):
    """Tell whether the thing is ("row", ROW) by form."""
    return is_pair(thing) and thing[0] == "row" and are_home_pairs(town, thing[1])


def is_barred_paper(wished, thing):
    """Tell whether the thing is ("barred", HAND, anything) of a hand that is wished somewhere."""
    if not isinstance(thing, tuple) or len(thing) != 3:
        return False
    return thing[0] == "barred" and isinstance(thing[1], str) and thing[1] in wished


def row_wrong(town, standing, wished, row):
    """Tell None of a row behind which each hand stands in the home wished, else the first fault."""
    here = list(standing)
    at = stuck(town, here, row)
    if at is not None:
        return ("row", at)
    behind = homes_by_hand(town, hands_at(here))
    if any([behind[hand] != home for hand, home in wished.items()]):
        return ("end",)
    return None


def shown_wrong(town, standing, wished, thing):
    """Tell None of what shows whether these hands can all come to the homes wished, else the first fault."""
    if is_row_paper(town, thing):
        return row_wrong(town, standing, wished, thing[1])
    if not is_barred_paper(wished, thing):
        return ("paper",)
    _, hand, paper = thing
    wrong = fence_wrong(town, standing, hand, paper)
    if wrong is not None:
        return wrong
    return ("there",) if wished[hand] in paper[1] else None


def come_wrong(town, standing, stands, thing):
    """Tell None of what shows whether the STANDS can come about, of anything else the first fault."""
    check_stands(town, standing, stands)
    return shown_wrong(town, standing, homes_by_hand(town, stands), thing)


def bring_wrong(town, standing, hand, home, thing):
    """Tell None of what shows whether the hand can come to the home, of anything else the first fault."""
    check_standing(town, standing)
    place_of_hand(standing, hand)
    place_of_home(town, home)
    return shown_wrong(town, standing, {hand: home}, thing)
