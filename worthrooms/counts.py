"""Counts: how many STANDS a lot has, which of them has which number, and what part of them has a hand somewhere."""

from math import gcd, perm

from worthrooms.errors import NoNumber
from worthrooms.rooms import first_outside, rooms_by_hand
from worthrooms.towns import check_standing, check_stands, is_whole, place_of_hand, place_of_home, wealth_by_hand


def smaller_within(rooms, room):
    """Count the rooms that lie in the room and are unlike it."""
    # Two rooms of hands lie one within the other or apart, so one home tells which.
    return len([other for other in rooms if len(other) < len(room) and other[0] in room])


class Lot:
    """Hands with their rooms, some of them put into homes, and how many STANDS have those there.

    Of each room are kept how many homes of it are left when all who are put and all hands of smaller rooms in it have
    theirs (free), and how many hands of just this room are not yet put (own): so many ways do these find homes in it,
    whatever the others chose.
    """

    def __init__(self, room):
        self.room = room
        self.home = {}
        self.taken = {}
        rooms = [tuple(places) for places in room.values()]
        self.own = {key: rooms.count(key) for key in rooms}
        self.free = {key: len(key) - smaller_within(rooms, key) for key in rooms}
        self.around = {place: [] for key in rooms for place in key}
        for key in self.own:
            for place in key:
                self.around[place].append(key)

    def shift(self, hand, place, by):
        """Note that one more, or one fewer, is put there."""
        own = tuple(self.room[hand])
        self.own[own] += by
        for key in self.around[place]:
            # In a greater room it takes one home wherever it is put, so nothing changes there.
            if len(key) <= len(own):
                self.free[key] += by

    def put(self, hand, place):
        """Put the hand into a home of its room into which no other one is put."""
        self.home[hand] = place
        self.taken[place] = hand
        self.shift(hand, place, -1)

    def lift(self, hand, place):
        """Undo that the hand was put there."""
        del self.home[hand]
        del self.taken[place]
        self.shift(hand, place, 1)

    def may_put(self, hand, place):
        """Tell whether the home is in the room of the hand and no other one is put into it."""
        return place in self.room[hand] and place not in self.taken

    def total(self):
        """Count the STANDS that have those who are put where they are put."""
        found = 1
        for key, own in self.own.items():
            if self.free[key] < own:
                return 0
            found *= perm(self.free[key], own)
        return found

    def total_with(self, hand, place):
        """Count those that have the hand in this home, too."""
        if not self.may_put(hand, place):
            return 0
        self.put(hand, place)
        found = self.total()
        self.lift(hand, place)
        return found

    def put_all(self, n):
        """Put the others, such that of all STANDS that have those who are put there these have number n."""
        for hand, places in self.room.items():
            if hand in self.home:
                continue
            for place in places:
                many = self.total_with(hand, place)
                if n < many:
                    self.put(hand, place)
                    break
                n -= many

    def as_stands(self, town):
        """Tell home by home who is put there."""
        return tuple([self.taken.get(place, "") for place in range(len(town[0]))])


def given_places(town, standing, given):
    """Map each given hand to the place of its home, refuse by the dict's order what is none."""
    places = {}
    if given is not None:
        for hand, home in given.items():
            place_of_hand(standing, hand)
            places[hand] = place_of_home(town, home)
    return places


def put_given(lot, places):
    """Put each given hand into its home, tell whether that can be."""
    for hand, place in places.items():
        if not lot.may_put(hand, place):
            return False
        lot.put(hand, place)
    return True


def count(town, standing, *, given=None):
    """Count the STANDS of the lot that have each given hand in its home."""
    check_standing(town, standing)
    places = given_places(town, standing, given)
    lot = Lot(rooms_by_hand(town, standing))
    return lot.total() if put_given(lot, places) else 0


def nth(town, standing, n, *, given=None):
    """Tell the STANDS of number n among those that count counts."""
    many = count(town, standing, given=given)
    if not is_whole(n) or not 0 <= n < many:
        raise NoNumber(many)
    lot = Lot(rooms_by_hand(town, standing))
    put_given(lot, given_places(town, standing, given))
    lot.put_all(n)
    return lot.as_stands(town)


def first_with(town, room, places):
    """Tell the first STANDS of hands with these rooms that have each hand of the dict at its place."""
    lot = Lot(room)
    put_given(lot, places)
    lot.put_all(0)
    return lot.as_stands(town)


def first(town, standing):
    """Tell the STANDS of number 0 of the lot."""
    check_standing(town, standing)
    return first_with(town, rooms_by_hand(town, standing), {})


def number(town, standing, stands):
    """Tell the number of the STANDS in the lot, None where they are not in it."""
    check_stands(town, standing, stands)
    room = rooms_by_hand(town, standing)
    if first_outside(room, stands) is not None:
        return None
    lot = Lot(room)
    found = 0
    for hand, places in room.items():
        home = stands.index(hand)
        found += sum([lot.total_with(hand, place) for place in places if place < home])
        lot.put(hand, home)
    return found


def lowest(top, bottom):
    """Tell the share in lowest terms."""
    divisor = gcd(top, bottom)
    return (top // divisor, bottom // divisor)


def share(town, standing, hand, home):
    """Tell what part of the STANDS of the lot has the hand in the home."""
    check_standing(town, standing)
    place_of_hand(standing, hand)
    place = place_of_home(town, home)
    lot = Lot(rooms_by_hand(town, standing))
    return lowest(lot.total_with(hand, place), lot.total())


def mean(town, standing, hand):
    """Tell how many coins the hand has on the average over the STANDS of the lot."""
    check_standing(town, standing)
    place_of_hand(standing, hand)
    lot = Lot(rooms_by_hand(town, standing))
    many = lot.total()
    coins = wealth_by_hand(town, standing)[hand] * many
    for place in lot.room[hand]:
        coins -= town[0][place][1] * lot.total_with(hand, place)
    return lowest(coins, many)


def loose(town, standing, hand):
    """Tell how many homes of its room hands of smaller rooms leave to the hand, and how many have just its room."""
    check_standing(town, standing)
    place_of_hand(standing, hand)
    lot = Lot(rooms_by_hand(town, standing))
    key = tuple(lot.room[hand])
    return (lot.free[key], lot.own[key])
