"""Rooms: [15], [16], [17], [7], and of them [1], [2] and [3]."""

import copy
import itertools
import unittest

from samples import (CORNER, CORNERED, NO_STANDINGS, NO_TOWNS, ODD, STANDING, STANDS, TOWN, greatest_case, lists_in,
                     long_cases, lot, poor_cases, random_cases, shuffled_in_rooms, wealth_of, with_thing)
from worthrooms.errors import NoHand, NoStanding, NoStands, NoTown
from worthrooms.exchanges import exchanged, may
from worthrooms.rooms import in_lot, room_of, rooms
from worthrooms.towns import placed, stands_of, wealths


def levels_by_knots(town, standing):
    """The rooms of each level with their words, by the words of 15: knots are tied, level by level."""
    homes, roads = town
    worths = sorted({worth for _, worth in homes})
    wealth = wealth_of(town, standing)
    here = {name: there[0] if there else "" for (name, _), there in zip(homes, standing)}
    found, opened = [], []
    for worth in worths:
        parts = opened + [{name} for name, own in homes if own == worth]
        for one, other in roads:
            tied = [part for part in parts if one in part or other in part]
            if len(tied) == 2:
                parts = [part for part in parts if part not in tied] + [tied[0] | tied[1]]
        level, opened = [], []
        for part in parts:
            dearer = [following for following in worths if following > worth]
            shut = bool(dearer) and all(wealth[here[name]] < dearer[0] for name in part)
            level.append((part, "shut" if shut else "within" if dearer else "last"))
            if not shut:
                opened.append(part)
        found.append(level)
    return found


def rooms_by_knots(town, standing):
    words = {}
    names = [name for name, _ in town[0]]
    for level in levels_by_knots(town, standing):
        for part, word in level:
            words[tuple(sorted(names.index(name) for name in part))] = word
    return [([names[place] for place in places], word) for places, word in sorted(words.items())]


def room_by_knots(town, standing, hand):
    """The room of the hand by the words of 16: of the greatest level the worth of which it affords."""
    wealth = wealth_of(town, standing)[hand]
    names = [name for name, _ in town[0]]
    home = names[[there[0] if there else "" for there in standing].index(hand)]
    many = len([worth for worth in {worth for _, worth in town[0]} if worth <= wealth])
    (part, _), = [room for room in levels_by_knots(town, standing)[many - 1] if home in room[0]]
    return [name for name in names if name in part]


def line(worths):
    """A town of homes a, b, c, .. in a line."""
    names = "abcdefghijklmnopqrstuvwxyz"[:len(worths)]
    return (tuple(zip(names, worths)), tuple(zip(names, names[1:])))


class Rooms(unittest.TestCase):
    def test_of_the_sample(self):
        told = [(["low"], "within"), (["low", "mid"], "within"), (["low", "mid", "high"], "last"), (["low2"], "shut"),
                (["isle", "isle2"], "last")]
        self.assertEqual(rooms(TOWN, STANDING), told)

    def test_a_shut_room_splits_a_town(self):
        told = [(["west"], "last"), (["c1", "c2"], "shut"), (["east", "yard"], "within"),
                (["east", "yard", "hall"], "last"), (["yard"], "within")]
        self.assertEqual(rooms(CORNER, CORNERED), told)

    def test_open_by_one_hand_of_just_the_next_worth(self):
        town = line([7, 0, 0, 7, 9])
        split = [(["a"], "last"), (["b", "c"], "shut"), (["d"], "within"), (["d", "e"], "last")]
        whole = [(["a", "b", "c", "d"], "within"), (["a", "b", "c", "d", "e"], "last"), (["b", "c"], "within")]
        for coins in range(5, 9):
            standing = (("w", 0), ("x", 0), ("y", coins), ("z", 2), ("v", 0))
            if coins < 7:
                self.assertEqual(rooms(town, standing)[1:], split[1:])
                self.assertEqual(rooms(town, standing)[0], (["a"], "shut"))
            else:
                self.assertEqual(rooms(town, standing), whole)

    def test_open_by_one_empty_home(self):
        town = line([7, 0, 0, 7])
        poor = (("w", 0), ("x", 0), ("y", 0), ("z", 0))
        self.assertEqual(rooms(town, poor), [(["a"], "last"), (["b", "c"], "shut"), (["d"], "last")])
        for place in (1, 2):
            told = [(["a", "b", "c", "d"], "last"), (["b", "c"], "within")]
            self.assertEqual(rooms(town, with_thing(poor, place, ())), told)

    def test_who_is_rich_beside_a_room_does_not_open_it(self):
        standing = (("w", 99), ("x", 0), ("y", 6), ("z", 99))
        self.assertEqual(rooms(line([7, 0, 0, 7]), standing)[1], (["b", "c"], "shut"))

    def test_one_set_of_homes_at_several_levels_is_told_once(self):
        town = ((("a", 0), ("b", 1), ("c", 2), ("d", 3)), (("c", "b"),))
        for coins, word in enumerate(["shut", "shut", "shut", "last", "last"]):
            standing = (("x", coins), ("y", 0), ("z", 1), ("w", 0))
            told = [(["a"], word), (["b"], "shut"), (["c"], "last"), (["d"], "last")]
            self.assertEqual(rooms(town, standing), told)
        told = [(["a"], "last"), (["b"], "within"), (["b", "c"], "shut"), (["d"], "last")]
        self.assertEqual(rooms(town, ((), ("y", 1), ("z", 0), ("w", 0))), told)

    def test_a_shut_room_is_in_no_room_of_a_higher_level(self):
        town = line([1, 0, 2, 0, 1])
        standing = (("a", 1), ("b", 0), ("c", 0), ("d", 1), ("e", 1))
        told = [(["a"], "last"), (["b"], "shut"), (["c", "d", "e"], "last"), (["d"], "within"), (["d", "e"], "within")]
        self.assertEqual(rooms(town, standing), told)

    def test_the_order_by_the_lists_of_places(self):
        town = ((("z", 5), ("y", 0), ("x", 5), ("w", 0)), (("w", "z"), ("w", "y"), ("x", "y")))
        standing = ((), ("a", 0), (), ("b", 5))
        told = [(["z", "y", "x", "w"], "last"), (["y", "w"], "within")]
        self.assertEqual(rooms(town, standing), told)
        town = (town[0], (("w", "z"), ("x", "y")))
        told = [(["z", "w"], "last"), (["y"], "shut"), (["x"], "last"), (["w"], "within")]
        self.assertEqual(rooms(town, standing), told)

    def test_of_one_worth(self):
        town = line([4, 4, 4])
        self.assertEqual(rooms(town, (("a", 0), (), ("b", 9))), [(["a", "b", "c"], "last")])
        town = (town[0], (("c", "a"),))
        self.assertEqual(rooms(town, (("a", 0), (), ("b", 9))), [(["a", "c"], "last"), (["b"], "last")])

    def test_of_one_home(self):
        for standing in [((),), (("x", 0),), (("x", 10 ** 9),)]:
            self.assertEqual(rooms(line([5]), standing), [(["a"], "last")])

    def test_without_roads(self):
        town = (line([2, 0, 5, 0])[0], ())
        standing = ((), ("x", 1), ("y", 0), ("z", 5))
        self.assertEqual(rooms(town, standing), [(["a"], "last"), (["b"], "shut"), (["c"], "last"), (["d"], "last")])

    def test_nobody(self):
        self.assertEqual(rooms(line([1, 0, 2]), ((), (), ())),
                         [(["a", "b"], "within"), (["a", "b", "c"], "last"), (["b"], "within")])

    def test_by_knots_on_small_towns(self):
        seen = {"shut": 0, "within": 0, "last": 0}
        for _, town, standing in itertools.chain(random_cases(400, 15), poor_cases(800, 15)):
            told = rooms(town, standing)
            self.assertEqual(told, rooms_by_knots(town, standing))
            for _, word in told:
                seen[word] += 1
        self.assertGreater(min(seen.values()), 400)

    def test_by_knots_on_great_towns(self):
        for _, town, standing in itertools.chain(long_cases(12, 15), long_cases(12, 16, bare=True)):
            self.assertEqual(rooms(town, standing), rooms_by_knots(town, standing))
        town, standing = greatest_case()
        self.assertEqual(rooms(town, standing), rooms_by_knots(town, standing))
        for hand in wealths(town, standing):
            self.assertEqual(room_of(town, standing, hand), room_by_knots(town, standing, hand))

    def test_what_was_told_is_the_askers_own(self):
        told = rooms(TOWN, STANDING)
        ahead = copy.deepcopy(told)
        lists = lists_in(told)
        self.assertEqual(len({id(found) for found in lists}), len(lists))
        for found in lists:
            found.clear()
        self.assertEqual(rooms(TOWN, STANDING), ahead)

    def test_by_name(self):
        self.assertEqual(rooms(standing=STANDING, town=TOWN), rooms(TOWN, STANDING))


class RoomOf(unittest.TestCase):
    def test_of_the_sample(self):
        told = {"eve": ["low", "mid"], "bob": ["low", "mid", "high"], "ann": ["low2"]}
        for hand, room in told.items():
            self.assertEqual(room_of(TOWN, STANDING, hand), room)

    def test_by_wealth(self):
        town = line([0, 3, 6, 9])
        stood = ["a", "a", "a", "ab", "ab", "ab", "abc", "abc", "abc", "abcd", "abcd"]
        for coins, room in enumerate(stood):
            self.assertEqual(room_of(town, (("x", coins), (), (), ()), "x"), list(room))

    def test_of_who_affords_just_its_home(self):
        town = line([0, 3, 6, 9])
        for place, room in enumerate(["a", "ab", "abc", "abcd"]):
            standing = with_thing(((), (), (), ()), place, ("x", 0))
            self.assertEqual(room_of(town, standing, "x"), list(room))
            self.assertEqual(room_of(town, with_thing(standing, place, ("x", 2)), "x"), list(room))

    def test_of_who_is_rich_among_the_poor(self):
        for coins in (0, 1, 50, 10 ** 12):
            standing = with_thing(CORNERED, 0, ("rich", coins))
            self.assertEqual(room_of(CORNER, standing, "rich"), ["west"])
        self.assertEqual(room_of(CORNER, CORNERED, "pip"), ["c1", "c2"])
        self.assertEqual(room_of(CORNER, CORNERED, "ed"), ["east", "yard"])
        self.assertEqual(room_of(CORNER, CORNERED, "hal"), ["east", "yard", "hall"])

    def test_of_who_is_richest_in_a_shut_room(self):
        town = line([9, 0, 3, 0, 9])
        standing = (("w", 0), ("x", 0), ("y", 5), ("z", 3), ("v", 0))
        self.assertEqual(room_of(town, standing, "y"), ["c", "d"])
        self.assertEqual(room_of(town, standing, "z"), ["c", "d"])
        self.assertEqual(room_of(town, standing, "x"), ["b"])
        self.assertEqual(room_of(town, standing, "v"), ["e"])

    def test_in_the_order_of_the_town(self):
        town = ((("z", 1), ("y", 0), ("x", 1), ("w", 0)), (("w", "x"), ("x", "y"), ("z", "y")))
        self.assertEqual(room_of(town, ((), ("a", 1), ("b", 0), ()), "b"), ["z", "y", "x", "w"])
        self.assertEqual(room_of(town, ((), ("a", 0), ("b", 0), ()), "b"), ["x", "w"])

    def test_by_knots_and_by_all_exchanges_on_small_towns(self):
        for _, town, standing in itertools.chain(random_cases(80, 16), poor_cases(300, 16)):
            names = [name for name, _ in town[0]]
            all_stands = lot(town, standing)
            for hand in wealths(town, standing):
                room = room_of(town, standing, hand)
                self.assertEqual(room, room_by_knots(town, standing, hand))
                seen = {names[stands.index(hand)] for stands in all_stands}
                self.assertEqual(room, [name for name in names if name in seen])

    def test_exchanges_change_no_room(self):
        for dice, town, standing in itertools.chain(poor_cases(100, 17), long_cases(6, 17)):
            here = standing
            for _ in range(20):
                if may(town, here):
                    here = exchanged(town, here, dice.choice(may(town, here)))
            self.assertEqual(rooms(town, here), rooms(town, standing))
            for hand in wealths(town, standing):
                self.assertEqual(room_of(town, here, hand), room_of(town, standing, hand))

    def test_two_rooms_lie_one_within_the_other_or_apart(self):
        for _, town, standing in long_cases(6, 18):
            found = [set(room_of(town, standing, hand)) for hand in wealths(town, standing)]
            for one, other in itertools.combinations(found, 2):
                self.assertIn(one & other, (one, other, set()))

    def test_what_was_told_is_the_askers_own(self):
        standing = (("x", 5), ("y", 5))
        town = line([0, 5])
        room_of(town, standing, "x").clear()
        self.assertEqual(room_of(town, standing, "x"), ["a", "b"])
        self.assertEqual(room_of(town, standing, "y"), ["a", "b"])

    def test_by_name(self):
        self.assertEqual(room_of(hand="ann", standing=STANDING, town=TOWN), ["low2"])


class InLot(unittest.TestCase):
    def test_of_the_sample(self):
        can = [STANDS, ("bob", "eve", "", "ann", "", ""), ("eve", "", "bob", "ann", "", "")]
        can += [("", "eve", "bob", "ann", "", "")]
        cannot = [("", "bob", "eve", "ann", "", ""), ("eve", "bob", "ann", "", "", "")]
        cannot += [("ann", "bob", "", "eve", "", "")]
        cannot += [("eve", "", "", "ann", "bob", ""), ("eve", "", "", "ann", "", "bob")]
        for stands in can:
            self.assertIs(in_lot(TOWN, STANDING, stands), True, stands)
        for stands in cannot:
            self.assertIs(in_lot(TOWN, STANDING, stands), False, stands)

    def test_what_a_hand_cannot_afford_is_not_refused(self):
        town = line([0, 5])
        self.assertIs(in_lot(town, (("x", 4), ()), ("", "x")), False)
        self.assertIs(in_lot(town, (("x", 5), ()), ("", "x")), True)
        self.assertIs(in_lot(TOWN, STANDING, ("bob", "ann", "eve", "", "", "")), False)

    def test_what_is_none_of_its_stands(self):
        ill = ODD + [list(STANDS), STANDS[:5], (*STANDS, ""), STANDING, ("",) * 6]
        ill += [("eve", "bob", "", "", "", ""), ("eve", "bob", "cid", "ann", "", "")]
        ill += [("eve", "bob", "eve", "ann", "", "")]
        ill += [with_thing(STANDS, k, thing) for k in range(6) for thing in ODD if thing not in ("", STANDS[k])]
        for stands in ill:
            self.assertRaises(NoStands, in_lot, TOWN, STANDING, stands)

    def test_by_all_exchanges_on_small_towns(self):
        seen = {True: 0, False: 0}
        for dice, town, standing in itertools.chain(random_cases(60, 19), poor_cases(300, 19)):
            all_stands = lot(town, standing)
            others = sorted(set(itertools.permutations(stands_of(town, standing))))
            for stands in dice.sample(others, min(60, len(others))) + sorted(all_stands)[:60]:
                self.assertIs(in_lot(town, standing, stands), stands in all_stands)
                seen[stands in all_stands] += 1
        self.assertGreater(min(seen.values()), 1000)

    def test_on_great_towns(self):
        for dice, town, standing in itertools.chain(long_cases(4, 20), long_cases(4, 21, bare=True)):
            room = {hand: room_of(town, standing, hand) for hand in wealths(town, standing)}
            stands = shuffled_in_rooms(dice, town, room)
            self.assertIs(in_lot(town, standing, stands), True)
            back = placed(town, standing, stands)
            self.assertIs(in_lot(town, back, stands_of(town, standing)), True)
            names = [name for name, _ in town[0]]
            for one, other in itertools.combinations(range(len(names)), 2):
                turned = with_thing(with_thing(stands, one, stands[other]), other, stands[one])
                fits = all(not turned[k] or names[k] in room[turned[k]] for k in (one, other))
                self.assertIs(in_lot(town, standing, turned), fits)

    def test_by_name(self):
        self.assertIs(in_lot(stands=STANDS, standing=STANDING, town=TOWN), True)


class Refusals(unittest.TestCase):
    CALLS = [rooms]
    CALLS += [lambda town, standing, thing=thing: room_of(town, standing, thing) for thing in ("eve", None)]
    CALLS += [lambda town, standing, thing=thing: in_lot(town, standing, thing) for thing in (STANDS, None)]

    def test_what_is_no_town_ahead_of_all(self):
        for call, (town, wrong), standing in itertools.product(self.CALLS, NO_TOWNS, (STANDING, None)):
            with self.assertRaises(NoTown) as caught:
                call(town, standing)
            self.assertEqual(caught.exception.wrong, wrong)

    def test_what_is_no_standing_ahead_of_the_rest(self):
        for call, (standing, wrong) in itertools.product(self.CALLS, NO_STANDINGS):
            with self.assertRaises(NoStanding) as caught:
                call(TOWN, standing)
            self.assertEqual(caught.exception.wrong, wrong)

    def test_what_is_no_hand(self):
        for hand in [thing for thing in ODD if thing != "eve"] + ["low", "Eve", "eve ", ("eve", 5)]:
            with self.assertRaises(NoHand) as caught:
                room_of(TOWN, STANDING, hand)
            self.assertIs(caught.exception.name, hand)

    def test_what_is_handed_in_stays(self):
        hand = ["eve"]
        self.assertRaises(NoHand, room_of, TOWN, STANDING, hand)
        stands = [list(STANDS), {"eve": []}]
        self.assertRaises(NoStands, in_lot, TOWN, STANDING, stands)
        self.assertEqual((hand, stands), (["eve"], [list(STANDS), {"eve": []}]))


if __name__ == "__main__":
    unittest.main()
