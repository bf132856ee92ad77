"""Exchanges: [10], [7], and of them [2] and [3]."""

import itertools
import unittest

from samples import NO_TUPLES, ODD, STANDING, TOWN, random_cases, with_thing
from worthrooms.errors import NoRoad, NoRow, NoStanding, NoTown, Short
from worthrooms.exchanges import exchanged, gone, may
from worthrooms.towns import placed, stands_of, wealths

EMPTY = ((),) * 6


class Exchanges(unittest.TestCase):
    def check_no_road(self, at, pair, call, *told):
        with self.assertRaises(NoRoad) as caught:
            call(*told)
        self.assertIs(caught.exception.pair, pair)
        self.assertEqual(caught.exception.at, at)

    def check_short(self, fields, call, *told):
        with self.assertRaises(Short) as caught:
            call(*told)
        found = caught.exception
        self.assertEqual((found.hand, found.lacks, found.at), fields)


class Exchanged(Exchanges):
    def test_either_way_about(self):
        told = (("bob", 12), ("eve", 0), (), ("ann", 11), (), ())
        self.assertEqual(exchanged(TOWN, STANDING, ("low", "mid")), told)
        self.assertEqual(exchanged(TOWN, STANDING, ("mid", "low")), told)

    def test_to_an_empty_dearer_home(self):
        for pair in [("mid", "high"), ("high", "mid")]:
            told = exchanged(TOWN, STANDING, pair)
            self.assertEqual(told, (("eve", 5), (), ("bob", 0), ("ann", 11), (), ()))

    def test_to_an_empty_cheaper_home(self):
        standing = with_thing(EMPTY, 2, ("bob", 0))
        self.assertEqual(exchanged(TOWN, standing, ("high", "mid")), with_thing(EMPTY, 1, ("bob", 7)))
        self.assertEqual(exchanged(TOWN, standing, ("low2", "high")), with_thing(EMPTY, 3, ("bob", 12)))

    def test_of_equal_worth(self):
        one = with_thing(EMPTY, 4, ("ann", 0))
        two = with_thing(EMPTY, 5, ("ann", 0))
        both = with_thing(one, 5, ("bob", 7))
        for pair in [("isle", "isle2"), ("isle2", "isle")]:
            self.assertEqual(exchanged(TOWN, one, pair), two)
            self.assertEqual(exchanged(TOWN, two, pair), one)
            self.assertEqual(exchanged(TOWN, both, pair), (*EMPTY[:4], ("bob", 7), ("ann", 0)))

    def test_of_two_empty_homes(self):
        for pair in [*TOWN[1], ("mid", "low")]:
            self.assertEqual(exchanged(TOWN, EMPTY, pair), EMPTY)

    def test_short(self):
        for pair in [("low2", "high"), ("high", "low2")]:
            self.check_short(("ann", 1, 0), exchanged, TOWN, STANDING, pair)
        standing = (("a", 4), ("b", 0), ("c", 0), (), (), ())
        for pair in [("low", "mid"), ("mid", "low")]:
            self.check_short(("a", 1, 0), exchanged, TOWN, standing, pair)
        for pair in [("high", "mid"), ("mid", "high")]:
            self.check_short(("b", 7, 0), exchanged, TOWN, standing, pair)

    def test_just_enough(self):
        standing = (("a", 5), ("b", 0), (), (), (), ())
        self.assertEqual(exchanged(TOWN, standing, ("low", "mid")), (("b", 5), ("a", 0), (), (), (), ()))

    def test_no_road(self):
        ill = NO_TUPLES + [(), ("low",), ["low", "mid"], ("low", "mid", "high"), ("low", "low"), ("low", "high")]
        ill += [("low", "isle"), ("low", "nobody"), ("Low", "mid"), ("low", ["mid"]), ([], {}), (("low", "mid"),), (0, 1)]
        for pair in ill:
            self.check_no_road(0, pair, exchanged, TOWN, STANDING, pair)

    def test_huge_numbers(self):
        town = ((("a", 10 ** 30), ("b", 3 * 10 ** 30)), (("a", "b"),))
        rich = (("x", 2 * 10 ** 30), ())
        self.assertEqual(exchanged(town, rich, ("a", "b")), ((), ("x", 0)))
        poor = (("x", 2 * 10 ** 30 - 1), ())
        self.check_short(("x", 1, 0), exchanged, town, poor, ("a", "b"))

    def test_against_placed_on_small_towns(self):
        seen = {"done": 0, "short": 0}
        for dice, town, standing in random_cases(300, 10):
            wealth = wealths(town, standing)
            names = [name for name, _ in town[0]]
            for near, far in itertools.permutations(names, 2):
                pair = (near, far)
                if pair not in town[1] and pair[::-1] not in town[1]:
                    self.check_no_road(0, pair, exchanged, town, standing, pair)
                    continue
                stands = list(stands_of(town, standing))
                one, other = names.index(near), names.index(far)
                stands[one], stands[other] = stands[other], stands[one]
                owing = {h: worth - wealth[h] for h, (_, worth) in zip(stands, town[0]) if h and worth > wealth[h]}
                if owing:
                    (hand, lacks), = owing.items()
                    self.check_short((hand, lacks, 0), exchanged, town, standing, pair)
                    seen["short"] += 1
                else:
                    told = exchanged(town, standing, pair)
                    self.assertEqual(told, placed(town, standing, tuple(stands)))
                    self.assertEqual(exchanged(town, told, pair), standing)
                    self.assertEqual(exchanged(town, told, pair[::-1]), standing)
                    seen["done"] += 1
        self.assertGreater(min(seen.values()), 100)

    def test_by_name(self):
        told = exchanged(pair=("low", "mid"), town=TOWN, standing=STANDING)
        self.assertEqual(told, exchanged(TOWN, STANDING, ("low", "mid")))


class May(Exchanges):
    def test_in_the_order_of_the_town(self):
        self.assertEqual(may(TOWN, STANDING), [("low", "mid"), ("high", "mid"), ("isle", "isle2")])
        self.assertEqual(may(TOWN, EMPTY), list(TOWN[1]))
        full = (("a", 0), ("b", 0), ("c", 0), ("d", 12), ("e", 0), ())
        self.assertEqual(may(TOWN, full), [("low2", "high"), ("isle", "isle2")])

    def test_no_road_at_all(self):
        self.assertEqual(may(((("a", 0),), ()), (("x", 0),)), [])

    def test_what_was_told_is_the_askers_own(self):
        may(TOWN, STANDING).clear()
        self.assertEqual(len(may(TOWN, STANDING)), 3)

    def test_just_the_roads_that_can_be_exchanged(self):
        for _, town, standing in random_cases(300, 11):
            found = []
            for road in town[1]:
                try:
                    exchanged(town, standing, road)
                    found.append(road)
                except Short:
                    pass
            self.assertEqual(may(town, standing), found)

    def test_by_name(self):
        self.assertEqual(may(standing=EMPTY, town=TOWN), list(TOWN[1]))


class Gone(Exchanges):
    ROW = [("low", "mid"), ("mid", "low"), ("mid", "high"), ("low", "mid"), ("low", "mid"), ("isle", "isle2")]

    def test_one_by_one(self):
        here = STANDING
        for many, pair in enumerate(self.ROW):
            self.assertEqual(gone(TOWN, STANDING, self.ROW[:many]), here)
            here = exchanged(TOWN, here, pair)
        self.assertEqual(gone(TOWN, STANDING, self.ROW), (("eve", 5), (), ("bob", 0), ("ann", 11), (), ()))

    def test_no_exchange(self):
        self.assertEqual(gone(TOWN, STANDING, []), STANDING)

    def test_no_row(self):
        for row in [thing for thing in ODD if not isinstance(thing, list)] + [tuple(self.ROW)]:
            self.assertRaises(NoRow, gone, TOWN, STANDING, row)

    def test_no_road_at_its_place(self):
        for pair in [thing for thing in ODD if thing not in (("low", "mid"), ("mid", "low"))]:
            for at in range(len(self.ROW)):
                row = self.ROW[:at] + [pair, None, ("low2", "high")]
                self.check_no_road(at, pair, gone, TOWN, STANDING, row)

    def test_short_at_its_place(self):
        row = [("low", "mid"), ("mid", "high"), ("low2", "high"), None]
        self.check_short(("eve", 7, 1), gone, TOWN, STANDING, row)
        self.check_short(("ann", 1, 2), gone, TOWN, STANDING, self.ROW[:2] + [("high", "low2"), ("low", "low")])

    def test_short_is_looked_at_behind_the_exchanges_ahead(self):
        self.assertIn(("high", "mid"), may(TOWN, STANDING))
        row = [("low", "mid"), ("mid", "low"), ("low", "mid"), ("mid", "high")]
        self.check_short(("eve", 7, 3), gone, TOWN, STANDING, row)
        self.assertEqual(gone(TOWN, STANDING, [("low", "mid"), ("mid", "low"), ("mid", "high")])[2], ("bob", 0))

    def test_the_row_back_leads_to_the_standing_ahead(self):
        for dice, town, standing in random_cases(200, 12):
            here, row = standing, []
            for _ in range(12):
                roads = may(town, here)
                if roads:
                    near, far = dice.choice(roads)
                    row.append(dice.choice([(near, far), (far, near)]))
                    here = exchanged(town, here, row[-1])
            self.assertEqual(gone(town, standing, row), here)
            self.assertEqual(gone(town, here, row[::-1]), standing)
            self.assertEqual(wealths(town, here), wealths(town, standing))

    def test_the_row_stays_and_may_be_changed_behind(self):
        row = list(self.ROW)
        told = gone(TOWN, STANDING, row)
        self.assertEqual(row, self.ROW)
        row.clear()
        self.assertEqual(told, gone(TOWN, STANDING, self.ROW))

    def test_the_pair_in_the_field_is_the_one_handed_in(self):
        pair = ["low", "mid"]
        with self.assertRaises(NoRoad) as caught:
            gone(TOWN, STANDING, [pair])
        self.assertIs(caught.exception.pair, pair)
        self.assertEqual(pair, ["low", "mid"])

    def test_a_long_row_in_the_greatest_town(self):
        homes = tuple((f"h{k}", k % 20) for k in range(40))
        roads = tuple((f"h{k}", f"h{(k + step) % 40}") for step in (1, 2) for k in range(40))
        standing = tuple((f"p{k}", 100) if k else () for k in range(40))
        row = [(f"h{k % 40}", f"h{(k + 1) % 40}") for k in range(39)] * 2000
        back = gone((homes, roads), standing, row + row[::-1])
        self.assertEqual(back, standing)

    def test_by_name(self):
        self.assertEqual(gone(row=[], standing=STANDING, town=TOWN), STANDING)


class Refusals(Exchanges):
    CALLS = [may]
    CALLS += [lambda town, standing, thing=thing: exchanged(town, standing, thing) for thing in (("low", "mid"), None)]
    CALLS += [lambda town, standing, thing=thing: gone(town, standing, thing) for thing in ([], [None], None)]

    def test_what_is_no_town_ahead_of_all(self):
        for call, standing in itertools.product(self.CALLS, [STANDING, None]):
            for town, wrong in [(None, ("town",)), (with_thing(TOWN, 1, TOWN[1] * 2), ("road", 4))]:
                with self.assertRaises(NoTown) as caught:
                    call(town, standing)
                self.assertEqual(caught.exception.wrong, wrong)

    def test_what_is_no_standing_ahead_of_the_rest(self):
        cases = [(None, ("standing",)), (STANDING[:3], ("standing",)), (with_thing(STANDING, 3, ("eve", 1)), ("hand", 3))]
        for call, (standing, wrong) in itertools.product(self.CALLS, cases):
            with self.assertRaises(NoStanding) as caught:
                call(TOWN, standing)
            self.assertEqual(caught.exception.wrong, wrong)


if __name__ == "__main__":
    unittest.main()
