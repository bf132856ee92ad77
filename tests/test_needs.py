"""Idle roads, and whom one needs: [37], [38], [7], and of them [1], [2] and [3]."""

import itertools
import unittest

from samples import (CORNER, CORNERED, NO_HANDS, ODD, STANDING, TOWN, check_no_hand, check_no_home, check_own,
                     check_refused, greatest_case, long_cases, lot, poor_cases, random_cases, with_thing)
from worthrooms.errors import Barred, Needed, NoHand, NoHome
from worthrooms.exchanges import gone
from worthrooms.needs import beside, needed, roads_wanted, roads_wrong
from worthrooms.rooms import room_of
from worthrooms.towns import stands_of, wealths
from worthrooms.walls import fence_wrong
from worthrooms.ways import bring

# A line in which the middle hand must make way, and one beside it that is idle.
PATH = ((("a", 0), ("b", 2), ("c", 0), ("d", 0)), (("a", "b"), ("b", "c"), ("c", "d")))
ALONG = (("x", 2), ("y", 0), ("z", 0), ("w", 2))
# A ring of homes of one worth.
RING = ((("a", 1), ("b", 1), ("c", 1), ("d", 1)), (("a", "b"), ("b", "c"), ("c", "d"), ("d", "a")))
ROUND = (("x", 0), ("y", 0), ("z", 0), ())


def small_cases(seed):
    return itertools.chain(random_cases(40, seed), poor_cases(160, seed))


def with_roads(town, roads):
    return (town[0], tuple(roads))


def all_rooms(town, standing):
    return {hand: room_of(town, standing, hand) for hand in wealths(town, standing)}


def fewest(room):
    """As many roads as are wanted, by the words of 37 in brackets."""
    homes = {home for homes in room.values() for home in homes}
    rooms = {tuple(homes) for homes in room.values()}
    greatest = [one for one in rooms if not any(set(one) < set(other) for other in rooms)]
    return len(homes) - len(greatest)


def without(town, standing, hand):
    """The town and the standing without the home of the hand."""
    at = [there[0] if there else "" for there in standing].index(hand)
    home = town[0][at][0]
    roads = tuple(road for road in town[1] if home not in road)
    return (town[0][:at] + town[0][at + 1:], roads), standing[:at] + standing[at + 1:]


def barred_paper(hand, home):
    """The paper of the refusal of a hand and a home."""
    try:
        needed(CORNER, CORNERED, hand, home)
    except Barred as barred:
        return barred.paper


class RoadsWanted(unittest.TestCase):
    def check(self, town, standing):
        told = roads_wanted(town, standing)
        self.assertEqual(told, [road for road in town[1] if road in told])
        self.assertEqual(all_rooms(with_roads(town, told), standing), all_rooms(town, standing))
        self.assertEqual(len(told), fewest(all_rooms(town, standing)))
        self.assertIsNone(roads_wrong(town, standing, told))
        return told

    def test_of_the_samples(self):
        self.assertEqual(roads_wanted(TOWN, STANDING), [("low", "mid"), ("high", "mid")])
        told = [("c1", "c2"), ("yard", "east"), ("hall", "yard")]
        self.assertEqual(roads_wanted(CORNER, CORNERED), told)

    def test_one_idle_road_in_a_ring(self):
        self.assertEqual(len(self.check(RING, ROUND)), 3)

    def test_roads_between_empty_homes_alone_are_idle(self):
        self.assertEqual(roads_wanted(TOWN, ((),) * 6), [])
        self.assertEqual(roads_wanted(TOWN, with_thing(((),) * 6, 4, ("x", 0))), [("isle", "isle2")])
        self.assertEqual(roads_wanted(TOWN, with_thing(((),) * 6, 3, ("x", 0))), [])

    def test_a_road_that_holds_a_cheap_room_together_is_wanted(self):
        # Both come to the dear home by either road, but the poor one comes to its neighbour by the cheap road alone.
        town = ((("a", 0), ("b", 0), ("c", 5)), (("a", "c"), ("b", "c"), ("a", "b")))
        for standing in [(("x", 1), ("y", 6), ()), (("x", 1), (), ("y", 6))]:
            told = self.check(town, standing)
            self.assertIn(("a", "b"), told)
            self.assertEqual(len(told), 2)

    def test_as_few_as_can_be_on_small_towns(self):
        idle = 0
        for _, town, standing in small_cases(80):
            told = self.check(town, standing)
            here = lot(town, standing)
            self.assertEqual(lot(with_roads(town, told), standing), here)
            if len(town[1]) <= 7 and told:
                for roads in itertools.combinations(town[1], len(told) - 1):
                    self.assertNotEqual(lot(with_roads(town, roads), standing), here)
            idle += len(town[1]) - len(told)
        self.assertGreater(idle, 150)

    def test_in_great_towns(self):
        for _, town, standing in itertools.chain(long_cases(12, 81), long_cases(6, 82, bare=True)):
            self.check(town, standing)
        self.check(*greatest_case())

    def test_by_name(self):
        self.assertEqual(roads_wanted(standing=STANDING, town=TOWN), [("low", "mid"), ("high", "mid")])


class RoadsWrong(unittest.TestCase):
    def check(self, town, standing, thing, fault):
        self.assertEqual(roads_wrong(town, standing, thing), fault, thing)

    def test_right_ones(self):
        for left in RING[1]:
            self.check(RING, ROUND, [road for road in RING[1] if road != left], None)
        self.check(TOWN, STANDING, [("low", "mid"), ("high", "mid")], None)
        self.check(TOWN, ((),) * 6, [], None)

    def test_no_list_of_roads(self):
        wanted = [("low", "mid"), ("high", "mid")]
        ill = [thing for thing in ODD if thing not in ([],)] + [tuple(wanted), wanted[::-1], wanted + wanted[:1]]
        ill += [[("mid", "low"), ("high", "mid")], [("low", "mid"), ("mid", "high")], [("low", "mid")] * 2 + wanted[1:]]
        ill += [[("low", "high")], wanted + [("high", "low2")], [["low", "mid"], ("high", "mid")], ["low", "mid"]]
        ill += [[("low", "low")] + wanted, wanted + [("isle", "isle")], [("low", "mid", "high")], [wanted], [("low",)]]
        ill += [[wanted[0], thing, wanted[1]] for thing in ODD if thing != ("low", "mid") and thing != ("high", "mid")]
        for standing in (STANDING, ((),) * 6):
            for thing in ill:
                self.check(TOWN, standing, thing, ("paper",))
        self.check(TOWN, STANDING, list(TOWN[1])[::-1], ("paper",))

    def test_the_first_hand_with_another_room(self):
        self.check(TOWN, STANDING, [], ("room", "bob"))
        self.check(TOWN, STANDING, [("low", "mid")], ("room", "bob"))
        self.check(TOWN, STANDING, [("high", "mid")], ("room", "bob"))
        self.check(TOWN, STANDING, [("high", "mid"), ("low2", "high"), ("isle", "isle2")], ("room", "bob"))
        self.check(CORNER, CORNERED, [("c1", "c2"), ("hall", "yard")], ("room", "ed"))
        self.check(CORNER, CORNERED, [("c1", "c2"), ("yard", "east")], ("room", "hal"))
        self.check(CORNER, CORNERED, [("yard", "east"), ("hall", "yard")], ("room", "pip"))
        self.check(CORNER, CORNERED, [("west", "c1")], ("room", "ed"))

    def test_more_than_are_wanted(self):
        self.check(TOWN, STANDING, list(TOWN[1]), ("many", 2))
        self.check(TOWN, STANDING, list(TOWN[1][:3]), ("many", 1))
        self.check(RING, ROUND, list(RING[1]), ("many", 1))
        self.check(TOWN, ((),) * 6, [TOWN[1][0]], ("many", 1))

    def test_by_the_words_on_small_towns(self):
        seen = {"room": 0, "many": 0, None: 0}
        for dice, town, standing in small_cases(83):
            here, room = lot(town, standing), all_rooms(town, standing)
            told = roads_wanted(town, standing)
            for turn in range(8):
                thing = [road for road in town[1] if dice.random() < 0.7 or turn < 3 and road in told]
                changed = lot(with_roads(town, thing), standing)
                seen_by_hand = {hand: {stands.index(hand) for stands in changed} for hand in room}
                other = [hand for hand in sorted(room) if seen_by_hand[hand] != {stands.index(hand) for stands in here}]
                fault = ("room", other[0]) if other else None
                if fault is None and len(thing) > fewest(room):
                    fault = ("many", len(thing) - fewest(room))
                self.check(town, standing, thing, fault)
                seen[fault and fault[0]] += 1
        self.assertGreater(min(seen.values()), 100)

    def test_in_great_towns(self):
        for dice, town, standing in long_cases(6, 84):
            told = roads_wanted(town, standing)
            idle = [road for road in town[1] if road not in told]
            more = dice.sample(idle, min(3, len(idle)))
            thing = [road for road in town[1] if road in told or road in more]
            self.check(town, standing, thing, ("many", len(more)) if more else None)
            lost = dice.choice(told)
            self.assertEqual(roads_wrong(town, standing, [road for road in told if road != lost])[0], "room")

    def test_what_is_handed_in_stays(self):
        thing = [("low", "mid"), ("high", "mid"), ["x"]]
        roads_wrong(TOWN, STANDING, thing)
        self.assertEqual(thing, [("low", "mid"), ("high", "mid"), ["x"]])

    def test_by_name(self):
        self.assertEqual(roads_wrong(thing=[], standing=STANDING, town=TOWN), ("room", "bob"))


class Needs(unittest.TestCase):
    def check_barred(self, ask, town, standing, hand, home):
        with self.assertRaises(Barred) as caught:
            ask()
        paper = caught.exception.paper
        self.assertIsNone(fence_wrong(town, standing, hand, paper))
        self.assertNotIn(home, paper[1])

    def longest(self, town):
        many, unlike = len(town[0]), len({worth for _, worth in town[0]})
        return 2 * many * many * unlike * unlike + many * unlike

    def check_beside(self, town, standing, hand, home, other, can):
        """What beside tells of a hand that can come to the home."""
        rest, stood = without(town, standing, other)
        own = [name for name, _ in town[0]][stands_of(town, standing).index(other)]
        if can:
            row = beside(town, standing, hand, home, other)
            self.assertIs(type(row), list)
            self.assertLessEqual(len(row), self.longest(rest))
            self.assertFalse([pair for pair in row if own in pair])
            behind = gone(town, standing, row)
            self.assertEqual(stands_of(town, behind)[[name for name, _ in town[0]].index(home)], hand)
            return
        with self.assertRaises(Needed) as caught:
            beside(town, standing, hand, home, other)
        paper = caught.exception.paper
        if own == home:
            self.assertIsNone(paper)
        else:
            self.assertIsNone(fence_wrong(rest, stood, hand, paper))
            self.assertNotIn(home, paper[1])


class WhomOneNeeds(Needs):
    def test_of_a_path(self):
        self.assertEqual(needed(PATH, ALONG, "x", "a"), [])
        self.assertEqual(needed(PATH, ALONG, "x", "b"), ["y"])
        self.assertEqual(needed(PATH, ALONG, "x", "d"), ["w", "y", "z"])
        self.assertEqual(needed(PATH, ALONG, "z", "d"), ["w"])
        self.assertEqual(needed(PATH, ALONG, "z", "c"), [])

    def test_round_a_ring(self):
        self.assertEqual(needed(RING, ROUND, "x", "b"), ["y"])
        self.assertEqual(needed(RING, ROUND, "x", "d"), [])
        self.assertEqual(needed(RING, ROUND, "x", "c"), ["z"])
        self.assertEqual(needed(RING, ROUND, "y", "d"), [])

    def test_barred(self):
        for hand, homes in {"eve": ["high", "low2", "isle"], "ann": ["low", "mid", "high"], "bob": ["isle2"]}.items():
            for home in homes:
                self.check_barred(lambda: needed(TOWN, STANDING, hand, home), TOWN, STANDING, hand, home)

    def test_by_all_exchanges_on_small_towns(self):
        seen = [0, 0, 0]
        for _, town, standing in small_cases(85):
            names = [name for name, _ in town[0]]
            here = lot(town, standing)
            hands = sorted(wealths(town, standing))
            left = {other: (without(town, standing, other), lot(*without(town, standing, other)))
                    for other in hands if len(names) > 1}
            for hand, home in itertools.product(hands, names):
                if not any(stands[names.index(home)] == hand for stands in here):
                    self.check_barred(lambda: needed(town, standing, hand, home), town, standing, hand, home)
                    seen[2] += 1
                    continue
                wanted = []
                for other in hands:
                    if other != hand:
                        ((homes, _), _), there = left[other]
                        rest = [name for name, _ in homes]
                        can = home in rest and any(stands[rest.index(home)] == hand for stands in there)
                        wanted += [] if can else [other]
                        self.check_beside(town, standing, hand, home, other, can)
                        seen[can] += 1
                self.assertEqual(needed(town, standing, hand, home), wanted)
        self.assertGreater(min(seen), 300)

    def test_each_row_moves_each_of_them(self):
        seen = 0
        for _, town, standing in poor_cases(100, 86):
            names = [name for name, _ in town[0]]
            for hand in wealths(town, standing):
                for home in room_of(town, standing, hand):
                    _, row = bring(town, standing, hand, home)
                    here, moved = stands_of(town, standing), set()
                    for k in range(len(row)):
                        there = stands_of(town, gone(town, standing, row[:k + 1]))
                        moved |= {here[place] for place in range(len(names)) if here[place] != there[place]}
                        here = there
                    self.assertLessEqual(set(needed(town, standing, hand, home)), moved)
                    seen += len(moved)
        self.assertGreater(seen, 300)

    def test_in_great_towns(self):
        seen = [0, 0]
        for dice, town, standing in itertools.chain(long_cases(3, 87), long_cases(3, 88, bare=True)):
            hands = sorted(wealths(town, standing))
            for hand in dice.sample(hands, 2):
                home = dice.choice(room_of(town, standing, hand))
                told = needed(town, standing, hand, home)
                self.assertEqual(told, [other for other in hands if other in told and other != hand])
                for other in dice.sample([other for other in hands if other != hand], 6) + told[:3]:
                    self.check_beside(town, standing, hand, home, other, other not in told)
                    seen[other in told] += 1
        self.assertGreater(min(seen), 10)

    def test_in_the_greatest_town(self):
        town, standing = greatest_case()
        self.assertEqual(needed(town, standing, "p39", "h38"), ["p38"])
        self.assertEqual(needed(town, standing, "p39", "h36"), [])
        self.check_beside(town, standing, "p39", "h38", "p37", True)
        self.check_beside(town, standing, "p39", "h38", "p38", False)
        self.check_beside(town, standing, "p39", "h0", "p38", True)

    def test_what_is_no_hand_or_home(self):
        for home in ("low", "nobody", None):
            check_no_hand(self, needed, home)
        check_no_home(self, needed, "eve")

    def test_what_was_told_is_the_askers_own(self):
        check_own(self, lambda: needed(PATH, ALONG, "x", "d"))
        check_own(self, lambda: barred_paper("pip", "west"))

    def test_by_name(self):
        self.assertEqual(needed(home="d", hand="z", standing=ALONG, town=PATH), ["w"])


class Beside(Needs):
    def test_of_a_path(self):
        for hand, home, other, can in [("x", "b", "y", False), ("x", "d", "z", False), ("z", "d", "x", True),
                                       ("z", "d", "y", True), ("z", "d", "w", False), ("x", "a", "y", True)]:
            self.check_beside(PATH, ALONG, hand, home, other, can)

    def test_its_own_home(self):
        self.assertEqual(beside(PATH, ALONG, "x", "a", "y"), [])
        self.assertEqual(beside(TOWN, STANDING, "ann", "low2", "bob"), [])
        town = ((("a", 0), ("b", 0)), ())
        self.assertEqual(beside(town, (("x", 0), ("y", 0)), "x", "a", "y"), [])

    def test_the_home_of_the_other_one(self):
        with self.assertRaises(Needed) as caught:
            beside(RING, ROUND, "x", "b", "y")
        self.assertIsNone(caught.exception.paper)

    def test_barred_ahead_of_needed(self):
        for hand, home, other in [("eve", "high", "bob"), ("eve", "low2", "ann"), ("ann", "mid", "bob"),
                                  ("bob", "low2", "ann"), ("bob", "isle", "eve")]:
            self.check_barred(lambda: beside(TOWN, STANDING, hand, home, other), TOWN, STANDING, hand, home)

    def test_one_hand_twice_ahead_of_the_home(self):
        for hand in ("eve", "bob", "ann"):
            for home in ("low", "isle", "nobody", None):
                with self.assertRaises(NoHand) as caught:
                    beside(TOWN, STANDING, hand, home, hand)
                self.assertIs(caught.exception.name, hand)

    def test_the_first_hand_ahead_of_the_other_ahead_of_the_home(self):
        for hand in NO_HANDS:
            for other, home in itertools.product(("bob", "cid", None), ("low", "nobody")):
                with self.assertRaises(NoHand) as caught:
                    beside(TOWN, STANDING, hand, home, other)
                self.assertIs(caught.exception.name, hand)
            for home in ("low", "high", "nobody", None):
                with self.assertRaises(NoHand) as caught:
                    beside(TOWN, STANDING, "eve", home, hand)
                self.assertIs(caught.exception.name, hand)

    def test_what_is_no_home(self):
        check_no_home(self, lambda town, standing, home: beside(town, standing, "eve", home, "bob"))
        self.assertRaises(NoHome, beside, TOWN, STANDING, "ann", "nobody", "bob")

    def test_what_was_told_is_the_askers_own(self):
        check_own(self, lambda: beside(PATH, ALONG, "z", "d", "x"))

    def test_by_name(self):
        told = beside(other="x", home="d", hand="z", standing=ALONG, town=PATH)
        self.assertEqual(told, beside(PATH, ALONG, "z", "d", "x"))


class Refusals(unittest.TestCase):
    CALLS = [roads_wanted] + [lambda *told, thing=thing: roads_wrong(*told, thing) for thing in (None, [])]
    CALLS += [lambda *told, rest=rest: needed(*told, *rest) for rest in itertools.product(("eve", 0), ("mid", 0))]
    CALLS += [lambda *told, rest=rest: beside(*told, *rest)
              for rest in itertools.product(("eve", 0), ("mid", 0), ("bob", "eve", 0))]

    def test_what_is_no_town_or_standing_ahead_of_all(self):
        check_refused(self, self.CALLS)

    def test_what_was_told_is_the_askers_own(self):
        check_own(self, lambda: roads_wanted(TOWN, STANDING))


if __name__ == "__main__":
    unittest.main()
