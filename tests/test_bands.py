"""Idle coins: [35], [36], [7], and of them [1], [2] and [3]."""

import itertools
import unittest

from samples import (CORNER, CORNERED, NO_STANDINGS, ODD, STANDING, STANDS, TOWN, check_no_hand, check_own,
                     check_refused, long_cases, lot, poor_cases, random_cases, with_coins, with_thing)
from worthrooms.bands import alike, alike_wrong, band, stripped
from worthrooms.errors import NoStanding, Unlike
from worthrooms.rooms import in_lot, room_of
from worthrooms.towns import placed, stands_of, wealths

# From these just the same STANDS can come about as from the sample's standing.
ALIKE = (("eve", 6), ("bob", 9000), (), ("ann", 0), (), ())
# Eve can come to the high home, too.
RICHER = with_thing(STANDING, 0, ("eve", 12))


def small_cases(seed):
    return itertools.chain(random_cases(40, seed), poor_cases(160, seed))


def worth_at_home(town, standing):
    """The worth of each hand's own home."""
    return {there[0]: worth for (_, worth), there in zip(town[0], standing) if there}


def some_wealths(dice, town, standing):
    """For each hand some wealth in its band, mostly at an edge of it."""
    found = {}
    for hand in wealths(town, standing):
        top, rim = band(town, standing, hand)
        end = top + 20 if rim is None else rim
        found[hand] = dice.choice([top, end - 1, dice.randrange(top, end)])
    return found


def with_wealth(town, standing, wealth):
    """The same STANDS with other wealths."""
    home = worth_at_home(town, standing)
    return with_coins(standing, {hand: wealth[hand] - home[hand] for hand in wealth})


class Band(unittest.TestCase):
    def test_of_the_samples(self):
        for hand, told in {"eve": (5, 12), "bob": (12, None), "ann": (0, 12)}.items():
            self.assertEqual(band(TOWN, STANDING, hand), told)
        for hand, told in {"rich": (7, None), "pip": (0, 7), "poe": (0, 7), "ed": (7, 9), "hal": (9, None)}.items():
            self.assertEqual(band(CORNER, CORNERED, hand), told)

    def test_roads_out_that_are_not_too_dear_make_no_rim(self):
        # The cheap corner is shut to the one of the west, who could afford it.
        town = ((("a", 7), ("b", 0), ("c", 9)), (("a", "b"), ("a", "c")))
        standing = (("x", 0), ("y", 0), ())
        self.assertEqual(band(town, standing, "x"), (7, 9))
        self.assertEqual(band(town, with_thing(standing, 0, ("x", 2)), "x"), (9, None))
        self.assertEqual(band(town, standing, "y"), (0, 7))

    def test_the_least_of_several_rims(self):
        town = ((("a", 1), ("b", 9), ("c", 6), ("d", 8), ("e", 3)), (("a", "b"), ("c", "a"), ("d", "a"), ("d", "e")))
        self.assertEqual(band(town, (("x", 0), (), (), (), ()), "x"), (1, 6))
        self.assertEqual(band(town, (("x", 5), (), (), (), ()), "x"), (6, 8))
        self.assertEqual(band(town, (("x", 7), (), (), (), ()), "x"), (8, 9))
        self.assertEqual(band(town, (("x", 8), (), (), (), ()), "x"), (9, None))

    def test_no_roads(self):
        self.assertEqual(band(((("a", 3),), ()), (("x", 5),), "x"), (3, None))
        self.assertEqual(band(((("a", 3), ("b", 9)), ()), (("x", 5), ()), "x"), (3, None))

    def test_one_wealth_changed_on_small_towns(self):
        seen = {True: 0, False: 0}
        for _, town, standing in small_cases(60):
            here = lot(town, standing)
            home = worth_at_home(town, standing)
            for hand in wealths(town, standing):
                top, rim = band(town, standing, hand)
                for wealth in range(home[hand], 12):
                    changed = with_coins(standing, {hand: wealth - home[hand]})
                    inside = top <= wealth and (rim is None or wealth < rim)
                    self.assertEqual(lot(town, changed) == here, inside, (town, standing, hand, wealth))
                    seen[inside] += 1
        self.assertGreater(min(seen.values()), 300)

    def test_all_wealths_changed_at_once_on_small_towns(self):
        seen = 0
        for dice, town, standing in small_cases(61):
            here = lot(town, standing)
            wealth = some_wealths(dice, town, standing)
            self.assertEqual(lot(town, with_wealth(town, standing, wealth)), here)
            home = worth_at_home(town, standing)
            for hand in wealth:
                # One of them is out of its band now, whatever the others have.
                top, rim = band(town, standing, hand)
                for out in ([] if rim is None else [rim]) + ([top - 1] if top > home[hand] else []):
                    self.assertNotEqual(lot(town, with_wealth(town, standing, {**wealth, hand: out})), here)
                    seen += 1
        self.assertGreater(seen, 200)

    def test_in_great_towns(self):
        for dice, town, standing in itertools.chain(long_cases(9, 62), long_cases(9, 63, bare=True)):
            wealth = some_wealths(dice, town, standing)
            changed = with_wealth(town, standing, wealth)
            for hand in wealth:
                top, rim = band(town, standing, hand)
                self.assertEqual(room_of(town, changed, hand), room_of(town, standing, hand))
                names = room_of(town, standing, hand)
                self.assertEqual(top, max(worth for name, worth in town[0] if name in names))
                self.assertTrue(top <= wealths(town, standing)[hand] and (rim is None or wealths(town, standing)[hand] < rim))
                if rim is not None:
                    out = with_wealth(town, standing, {**wealth, hand: rim})
                    self.assertNotEqual(room_of(town, out, hand), names)

    def test_by_name(self):
        self.assertEqual(band(hand="eve", standing=STANDING, town=TOWN), (5, 12))


class Stripped(unittest.TestCase):
    def test_of_the_samples(self):
        self.assertEqual(stripped(TOWN, STANDING), (("eve", 5), ("bob", 7), (), ("ann", 0), (), ()))
        told = (("rich", 0), ("pip", 0), ("poe", 0), ("ed", 0), (), ("hal", 0))
        self.assertEqual(stripped(CORNER, CORNERED), told)

    def test_nobody(self):
        self.assertEqual(stripped(TOWN, ((),) * 6), ((),) * 6)

    def test_the_same_lot_on_small_towns(self):
        idle = 0
        for _, town, standing in small_cases(64):
            told = stripped(town, standing)
            self.assertEqual(stands_of(town, told), stands_of(town, standing))
            self.assertEqual(lot(town, told), lot(town, standing))
            for hand, wealth in wealths(town, told).items():
                self.assertEqual(wealth, band(town, standing, hand)[0])
                idle += wealths(town, standing)[hand] - wealth
        self.assertGreater(idle, 100)

    def test_no_coin_fewer_on_small_towns(self):
        for _, town, standing in poor_cases(60, 65):
            told = stripped(town, standing)
            here = lot(town, standing)
            for there in told:
                if there and there[1]:
                    poorer = with_coins(told, {there[0]: there[1] - 1})
                    self.assertNotEqual(lot(town, poorer), here)

    def test_in_great_towns(self):
        for _, town, standing in itertools.chain(long_cases(6, 66), long_cases(6, 67, bare=True)):
            told = stripped(town, standing)
            for hand in wealths(town, standing):
                self.assertEqual(room_of(town, told, hand), room_of(town, standing, hand))
            self.assertEqual(stripped(town, told), told)

    def test_by_name(self):
        self.assertEqual(stripped(standing=STANDING, town=TOWN), stripped(TOWN, STANDING))


class Alike(unittest.TestCase):
    def check_apart(self, town, one, other, told):
        word, stands = told
        self.assertEqual(word, "apart")
        self.assertNotEqual(in_lot(town, one, stands), in_lot(town, other, stands))

    def test_of_the_sample(self):
        self.assertEqual(alike(TOWN, STANDING, STANDING), ("alike",))
        self.assertEqual(alike(TOWN, STANDING, ALIKE), ("alike",))
        self.assertEqual(alike(TOWN, ALIKE, STANDING), ("alike",))
        self.check_apart(TOWN, STANDING, RICHER, alike(TOWN, STANDING, RICHER))
        self.check_apart(TOWN, RICHER, STANDING, alike(TOWN, RICHER, STANDING))

    def test_nobody(self):
        self.assertEqual(alike(TOWN, ((),) * 6, ((),) * 6), ("alike",))

    def test_by_all_exchanges_on_small_towns(self):
        seen = {"alike": 0, "apart": 0}
        for dice, town, standing in small_cases(68):
            here = lot(town, standing)
            for _ in range(3):
                other = with_coins(standing, {hand: dice.choice([0, 0, 1, 2, 3, 9]) for hand in wealths(town, standing)})
                if dice.random() < 0.5:
                    other = with_wealth(town, standing, some_wealths(dice, town, standing))
                there = lot(town, other)
                told = alike(town, standing, other)
                if told != ("alike",):
                    self.assertEqual(len(told), 2)
                    self.assertNotEqual(told[1] in here, told[1] in there)
                self.assertEqual(told[0], "alike" if here == there else "apart")
                self.assertIsNone(alike_wrong(town, standing, other, told))
                seen[told[0]] += 1
        self.assertGreater(min(seen.values()), 80)

    def test_in_great_towns(self):
        for dice, town, standing in itertools.chain(long_cases(6, 69), long_cases(6, 70, bare=True)):
            wealth = some_wealths(dice, town, standing)
            other = with_wealth(town, standing, wealth)
            self.assertEqual(alike(town, standing, other), ("alike",))
            self.assertIsNone(alike_wrong(town, standing, other, ("alike",)))
            for hand in wealth:
                rim = band(town, standing, hand)[1]
                if rim is not None:
                    out = with_wealth(town, standing, {**wealth, hand: rim})
                    told = alike(town, standing, out)
                    self.check_apart(town, standing, out, told)
                    self.assertIsNone(alike_wrong(town, standing, out, told))
                    self.assertEqual(alike_wrong(town, standing, out, ("alike",)), ("band", hand))

    def test_unlike(self):
        bob, eve = ("bob", 7), ("eve", 5)
        unlike = [
            (("eva", 5), *STANDING[1:]), (("eve", 5), bob, (), ("ann", 11), ("cid", 0), ()),
            ((), bob, (), ("ann", 11), (), ()), (eve, bob, (), ("ann", 11), (), ("eva", 5)), ((),) * 6,
            (bob, eve, (), ("ann", 11), (), ()), (eve, (), ("bob", 0), ("ann", 11), (), ()),
        ]
        for other in unlike:
            for one, two in ((STANDING, other), (other, STANDING)):
                self.assertRaises(Unlike, alike, TOWN, one, two)
                for thing in (("alike",), None):
                    self.assertRaises(Unlike, alike_wrong, TOWN, one, two, thing)

    def test_what_is_no_standing_of_either_ahead_of_unlike(self):
        calls = [alike] + [lambda *told, thing=thing: alike_wrong(*told, thing) for thing in (None, ("alike",))]
        for call, (other, wrong) in itertools.product(calls, NO_STANDINGS):
            for one in (STANDING, ((),) * 6):
                with self.assertRaises(NoStanding) as caught:
                    call(TOWN, one, other)
                self.assertEqual(caught.exception.wrong, wrong)
            for two in (STANDING, None, 7):
                with self.assertRaises(NoStanding) as caught:
                    call(TOWN, other, two)
                self.assertEqual(caught.exception.wrong, wrong)

    def test_by_name(self):
        self.assertEqual(alike(other=ALIKE, one=STANDING, town=TOWN), ("alike",))


class AlikeWrong(unittest.TestCase):
    def check(self, other, thing, fault):
        self.assertEqual(alike_wrong(TOWN, STANDING, other, thing), fault, thing)

    def test_alike(self):
        self.check(STANDING, ("alike",), None)
        self.check(ALIKE, ("alike",), None)

    def test_the_first_hand_out_of_its_band(self):
        for coins, fault in [(4, None), (11, None), (12, ("band", "eve"))]:
            self.check(with_thing(STANDING, 0, ("eve", max(coins, 5))), ("alike",), fault)
        self.check(with_coins(STANDING, {"eve": 4}), ("alike",), ("band", "eve"))
        self.check(with_coins(STANDING, {"bob": 6}), ("alike",), ("band", "bob"))
        self.check(with_coins(STANDING, {"ann": 12}), ("alike",), ("band", "ann"))
        self.check(with_coins(STANDING, {"ann": 12, "bob": 6, "eve": 0}), ("alike",), ("band", "ann"))
        self.check(with_coins(STANDING, {"bob": 6, "eve": 0}), ("alike",), ("band", "bob"))
        self.check(with_coins(STANDING, {"bob": 6, "ann": 0}), ("alike",), ("band", "bob"))

    def test_by_the_bands_of_the_first_one(self):
        self.assertEqual(alike_wrong(TOWN, RICHER, STANDING, ("alike",)), ("band", "eve"))
        self.assertEqual(alike_wrong(TOWN, STANDING, RICHER, ("alike",)), ("band", "eve"))
        poorer = with_coins(STANDING, {"bob": 6, "eve": 12})
        self.assertEqual(alike_wrong(TOWN, STANDING, poorer, ("alike",)), ("band", "bob"))

    def test_apart(self):
        self.check(RICHER, ("apart", ("", "bob", "eve", "ann", "", "")), None)
        self.check(RICHER, ("apart", ("bob", "", "eve", "ann", "", "")), None)
        for stands in (STANDS, ("bob", "eve", "", "ann", "", ""), ("eve", "bob", "ann", "", "", ""),
                       ("", "", "", "bob", "ann", "eve")):
            self.check(RICHER, ("apart", stands), ("apart",))
            self.check(STANDING, ("apart", stands), ("apart",))
            self.check(ALIKE, ("apart", stands), ("apart",))

    def test_no_paper(self):
        stands = ("", "bob", "eve", "ann", "", "")
        ill = [thing for thing in ODD] + ["alike", ["alike"], ("alike", None), ("alike", ()), ("alike", stands)]
        ill += [("Alike",), ("apart",), ["apart", stands], ("apart", stands, None), ("Apart", stands), (None, stands)]
        ill += [("apart", list(stands)), ("apart", stands[:5]), ("apart", (*stands, "")), ([], stands), ({}, stands)]
        ill += [("apart", STANDING), ("apart", ("",) * 6), ("apart", ("eve", *stands[1:]))]
        ill += [("apart", ("cid", *stands[1:])), ("apart", ("", "bob", "eve", "", "", ""))]
        ill += [("apart", with_thing(stands, k, thing)) for k in range(6) for thing in ODD if thing not in ("", stands[k])]
        for other in (STANDING, ALIKE, RICHER):
            for thing in ill:
                self.check(other, thing, ("paper",))

    def test_by_all_stands_of_small_towns(self):
        seen = {None: 0, "apart": 0}
        for dice, town, standing in poor_cases(80, 71):
            other = with_coins(standing, {hand: dice.choice([0, 1, 2, 3, 9]) for hand in wealths(town, standing)})
            here, there = lot(town, standing), lot(town, other)
            some = sorted(here ^ there) + sorted(here & there)[:10]
            some += dice.sample(sorted(set(itertools.permutations(stands_of(town, standing)))), 1)
            for stands in some[:30]:
                fault = None if (stands in here) != (stands in there) else ("apart",)
                self.assertEqual(alike_wrong(town, standing, other, ("apart", stands)), fault)
                seen[fault and fault[0]] += 1
        self.assertGreater(min(seen.values()), 200)

    def test_by_name(self):
        told = alike_wrong(thing=("alike",), other=RICHER, one=STANDING, town=TOWN)
        self.assertEqual(told, ("band", "eve"))


class Refusals(unittest.TestCase):
    CALLS = [stripped] + [lambda *told, hand=hand: band(*told, hand) for hand in ("eve", None)]
    CALLS += [lambda *told, other=other: alike(*told, other) for other in (STANDING, None)]
    CALLS += [lambda *told, other=other, thing=thing: alike_wrong(*told, other, thing)
              for other in (STANDING, None) for thing in (("alike",), None)]

    def test_what_is_no_town_or_standing_ahead_of_all(self):
        check_refused(self, self.CALLS)

    def test_what_is_no_hand(self):
        check_no_hand(self, band)

    def test_what_was_told_is_the_askers_own(self):
        check_own(self, lambda: alike(TOWN, STANDING, RICHER))
        check_own(self, lambda: stripped(TOWN, STANDING))

    def test_what_can_be_placed_stays_alike(self):
        for dice, town, standing in poor_cases(40, 72):
            other = with_wealth(town, standing, some_wealths(dice, town, standing))
            for stands in sorted(lot(town, standing))[:5]:
                told = alike(town, placed(town, standing, stands), placed(town, other, stands))
                self.assertEqual(told, ("alike",))


if __name__ == "__main__":
    unittest.main()
