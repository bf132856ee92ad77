"""Counted, told by number: [30], [31], [32], [7], and of them [1], [2] and [3]."""

import fractions
import itertools
import math
import random
import unittest

from samples import (CORNER, CORNERED, NO_HANDS, NO_HOMES, ODD, STANDING, STANDS, TOWN, can_key, check_no_hand,
                     check_no_home, check_own, check_refused, greatest_case, hands_of, in_order, long_cases, lot,
                     places_of, poor_cases, random_cases, wealth_of, with_thing)
from worthrooms.counts import count, first, loose, mean, nth, number, share
from worthrooms.errors import NoHand, NoHome, NoNumber, NoStands
from worthrooms.rooms import in_lot, room_of
from worthrooms.towns import stands_of, wealths

# All STANDS of the sample's lot, in their order.
ALL = [("bob", "eve", "", "ann", "", ""), ("eve", "bob", "", "ann", "", ""),
       ("eve", "", "bob", "ann", "", ""), ("", "eve", "bob", "ann", "", "")]


def town_of_one_worth(many):
    """A ring of so many homes of one worth."""
    homes = tuple((f"h{k}", 7) for k in range(many))
    return (homes, tuple((f"h{k}", f"h{(k + 1) % many}") for k in range(many)))


def given_in(dice, town, standing, many):
    """So many hands at most, each with a home of the town, mostly one of its room."""
    names = [name for name, _ in town[0]]
    hands = sorted(wealths(town, standing))
    given = {}
    for hand in dice.sample(hands, min(many, len(hands))):
        given[hand] = dice.choice(room_of(town, standing, hand) if dice.random() < 0.8 else names)
    return given


def having(town, all_stands, given):
    """Those of the STANDS that have each given hand in its home."""
    names = [name for name, _ in town[0]]
    return [stands for stands in all_stands if all(stands[names.index(given[hand])] == hand for hand in given)]


def small_cases(seed):
    return itertools.chain(random_cases(60, seed), poor_cases(240, seed))


class Count(unittest.TestCase):
    def test_of_the_sample(self):
        self.assertEqual(count(TOWN, STANDING), 4)
        self.assertEqual(count(TOWN, STANDING, given={"eve": "low"}), 2)
        self.assertEqual(count(TOWN, STANDING, given={"bob": "high"}), 2)
        self.assertEqual(count(TOWN, STANDING, given={"bob": "low"}), 1)
        self.assertEqual(count(TOWN, STANDING, given={"bob": "low", "eve": "mid", "ann": "low2"}), 1)

    def test_nothing_given(self):
        for town, standing, many in ((TOWN, STANDING, 4), (CORNER, CORNERED, 8)):
            self.assertEqual(count(town, standing), many)
            self.assertEqual(count(town, standing, given=None), many)
            self.assertEqual(count(town, standing, given={}), many)

    def test_given_out_of_its_room(self):
        for hand, home in [("eve", "high"), ("eve", "isle"), ("ann", "high"), ("bob", "low2"), ("ann", "isle2")]:
            self.assertEqual(count(TOWN, STANDING, given={hand: home}), 0)
            self.assertEqual(count(TOWN, STANDING, given={**{"bob": "mid"}, hand: home}), 0)

    def test_two_given_one_home(self):
        self.assertEqual(count(TOWN, STANDING, given={"eve": "low", "bob": "low"}), 0)
        self.assertEqual(count(TOWN, STANDING, given={"bob": "mid", "eve": "mid"}), 0)

    def test_given_a_home_of_a_room_within_its_own(self):
        # Two poor hands fill a cheap corner of three homes, a rich one may be there, too.
        town = ((("a", 0), ("b", 0), ("c", 0), ("d", 5), ("e", 5)), (("a", "b"), ("b", "c"), ("c", "d"), ("d", "e")))
        standing = (("x", 1), ("y", 2), ("z", 9), ("u", 1), ())
        self.assertEqual(count(town, standing), 3 * 2 * 3 * 2)
        self.assertEqual(count(town, standing, given={"z": "a"}), 2 * 1 * 2)
        self.assertEqual(count(town, standing, given={"z": "a", "u": "b"}), 0)
        self.assertEqual(count(town, standing, given={"z": "a", "x": "b"}), 1 * 2)
        self.assertEqual(count(town, standing, given={"z": "d"}), 3 * 2 * 2)
        self.assertEqual(count(town, standing, given={"x": "a", "y": "c"}), 3 * 2)

    def test_one_where_no_hand_is_left(self):
        self.assertEqual(count(TOWN, ((),) * 6), 1)
        self.assertEqual(count(((("a", 3),), ()), (("x", 0),)), 1)
        self.assertEqual(count(((("a", 3),), ()), (("x", 0),), given={"x": "a"}), 1)
        given = {"eve": "low", "bob": "mid", "ann": "low2"}
        self.assertEqual(count(TOWN, STANDING, given=given), 1)

    def test_by_all_exchanges_on_small_towns(self):
        seen = {True: 0, False: 0}
        for dice, town, standing in small_cases(40):
            all_stands = lot(town, standing)
            self.assertEqual(count(town, standing), len(all_stands))
            for many in (1, 1, 2, 2, 3, 6):
                given = given_in(dice, town, standing, many)
                told = count(town, standing, given=given)
                self.assertIs(type(told), int)
                self.assertEqual(told, len(having(town, all_stands, given)), (town, standing, given))
                seen[told > 0] += 1
        self.assertGreater(min(seen.values()), 200)

    def test_one_hand_given_in_its_room_is_never_none(self):
        for _, town, standing in itertools.chain(poor_cases(100, 41), long_cases(9, 41)):
            for hand in wealths(town, standing):
                for home in room_of(town, standing, hand):
                    self.assertGreater(count(town, standing, given={hand: home}), 0)

    def test_great_towns(self):
        for many in (20, 39, 40):
            town = town_of_one_worth(many)
            for hands in (1, 7, many - 1, many):
                standing = tuple((f"p{k}", 0) if k < hands else () for k in range(many))
                self.assertEqual(count(town, standing), math.factorial(many) // math.factorial(many - hands))
        self.assertGreater(count(town, standing), 10 ** 40)

    def test_great_towns_parted_by_each_hand(self):
        for dice, town, standing in itertools.chain(long_cases(9, 42), long_cases(6, 43, bare=True)):
            given = {}
            left = count(town, standing)
            for hand in dice.sample(sorted(wealths(town, standing)), 6):
                parts = {home: count(town, standing, given={**given, hand: home}) for home, _ in town[0]}
                self.assertEqual(sum(parts.values()), left)
                given[hand] = dice.choice([home for home in parts if parts[home]])
                left = parts[given[hand]]

    def test_the_greatest_town(self):
        town, standing = greatest_case()
        told = count(town, standing)
        self.assertEqual(told, sum(count(town, standing, given={"p39": home}) for home, _ in town[0]))

    def test_what_is_handed_in_stays(self):
        given = {"eve": "mid", "bob": "low"}
        count(TOWN, STANDING, given=given)
        self.assertEqual(list(given.items()), [("eve", "mid"), ("bob", "low")])
        given["bob"] = "high"
        self.assertEqual(count(TOWN, STANDING, given=given), 1)
        self.assertEqual(count(TOWN, STANDING), 4)
        given["ann"] = "nobody"
        self.assertRaises(NoHome, count, TOWN, STANDING, given=given)
        self.assertEqual(given, {"eve": "mid", "bob": "high", "ann": "nobody"})

    def test_by_name(self):
        self.assertEqual(count(given={"eve": "low"}, standing=STANDING, town=TOWN), 2)
        self.assertRaises(TypeError, count, TOWN, STANDING, {"eve": "low"})


class Nth(unittest.TestCase):
    def test_of_the_sample(self):
        for n, stands in enumerate(ALL):
            self.assertEqual(nth(TOWN, STANDING, n), stands)
            self.assertEqual(number(TOWN, STANDING, stands), n)
        self.assertEqual(first(TOWN, STANDING), ALL[0])
        self.assertEqual([nth(TOWN, STANDING, n, given={"eve": "mid"}) for n in (0, 1)], [ALL[0], ALL[3]])

    def test_by_all_exchanges_on_small_towns(self):
        for dice, town, standing in small_cases(44):
            all_stands = in_order(lot(town, standing))
            self.assertEqual(first(town, standing), all_stands[0])
            for n in range(0, len(all_stands), 1 + len(all_stands) // 50):
                told = nth(town, standing, n)
                self.assertEqual(told, all_stands[n])
                self.assertIs(type(told), tuple)
            self.assertEqual(nth(town, standing, len(all_stands) - 1), all_stands[-1])

    def test_given_on_small_towns(self):
        seen = 0
        for dice, town, standing in small_cases(45):
            all_stands = in_order(lot(town, standing))
            for many in (1, 2, 3):
                given = given_in(dice, town, standing, many)
                can = having(town, all_stands, given)
                for n in range(0, len(can), 1 + len(can) // 10):
                    self.assertEqual(nth(town, standing, n, given=given), can[n])
                    seen += 1
                with self.assertRaises(NoNumber) as caught:
                    nth(town, standing, len(can), given=given)
                self.assertEqual(caught.exception.many, len(can))
        self.assertGreater(seen, 1000)

    def test_what_is_no_number(self):
        ill = [-1, 4, 5, 10 ** 50, -4, True, False, None, 1.0, 0.0, "0", "", b"", [], [0], (), (0,), {}, {0: 0}]
        for n in ill:
            for given, many in ((None, 4), ({}, 4), ({"eve": "mid"}, 2), ({"eve": "isle"}, 0)):
                with self.assertRaises(NoNumber) as caught:
                    nth(TOWN, STANDING, n, given=given)
                self.assertEqual(caught.exception.many, many)
                self.assertIs(type(caught.exception.many), int)
        for n in (0, 1):
            with self.assertRaises(NoNumber) as caught:
                nth(TOWN, STANDING, n, given={"bob": "mid", "eve": "mid"})
            self.assertEqual(caught.exception.many, 0)

    def test_no_number_behind_what_is_given(self):
        self.assertRaises(NoHand, nth, TOWN, STANDING, -1, given={"cid": "low"})
        self.assertRaises(NoHome, nth, TOWN, STANDING, None, given={"eve": "nobody"})

    def test_nobody(self):
        self.assertEqual(nth(TOWN, ((),) * 6, 0), ("",) * 6)
        self.assertEqual(first(TOWN, ((),) * 6), ("",) * 6)
        self.assertEqual(number(TOWN, ((),) * 6, ("",) * 6), 0)
        self.assertRaises(NoNumber, nth, TOWN, ((),) * 6, 1)

    def test_there_and_back_in_great_towns(self):
        for dice, town, standing in itertools.chain(long_cases(18, 46), long_cases(9, 47, bare=True)):
            many = count(town, standing)
            told = {n: nth(town, standing, n) for n in {0, many - 1, many // 2, *[dice.randrange(many) for _ in "abc"]}}
            self.assertEqual(sorted(told, key=lambda n: places_of(told[n])), sorted(told))
            for n, stands in told.items():
                self.assertTrue(in_lot(town, standing, stands))
                self.assertEqual(number(town, standing, stands), n)
            here = stands_of(town, standing)
            self.assertEqual(nth(town, standing, number(town, standing, here)), here)

    def test_neighbours_in_the_greatest_town(self):
        town, standing = greatest_case()
        dice = random.Random(48)
        many = count(town, standing)
        for n in [0, many - 2] + [dice.randrange(many - 1) for _ in range(5)]:
            one, other = nth(town, standing, n), nth(town, standing, n + 1)
            self.assertLess(places_of(one), places_of(other))
            self.assertEqual((number(town, standing, one), number(town, standing, other)), (n, n + 1))
        hand = hands_of(stands_of(town, standing))[0]
        home = room_of(town, standing, hand)[0]
        many = count(town, standing, given={hand: home})
        self.assertEqual(nth(town, standing, many - 1, given={hand: home}), nth(town, standing, many - 1))

    def test_lots_of_ten_to_the_forty(self):
        town = town_of_one_worth(40)
        standing = tuple((f"p{k}", 0) for k in range(40))
        for n in (0, 10 ** 40, math.factorial(40) - 1):
            self.assertEqual(number(town, standing, nth(town, standing, n)), n)
        by_name = sorted(f"p{k}" for k in range(40))
        self.assertEqual(nth(town, standing, 0), tuple(by_name))
        self.assertEqual(nth(town, standing, math.factorial(40) - 1), tuple(by_name[::-1]))

    def test_what_is_handed_in_stays(self):
        given = {"eve": "mid"}
        self.assertEqual(nth(TOWN, STANDING, 1, given=given), ALL[3])
        self.assertEqual(given, {"eve": "mid"})

    def test_by_name(self):
        self.assertEqual(nth(given={"eve": "low"}, n=0, standing=STANDING, town=TOWN), ALL[1])
        self.assertEqual(first(standing=STANDING, town=TOWN), ALL[0])
        self.assertEqual(number(stands=ALL[2], standing=STANDING, town=TOWN), 2)
        self.assertRaises(TypeError, nth, TOWN, STANDING, 0, {"eve": "mid"})


class First(unittest.TestCase):
    def test_it_tells_lots_apart(self):
        for dice, town, standing in poor_cases(60, 49):
            all_stands = lot(town, standing)
            wealth = wealth_of(town, standing)
            others = sorted(set(itertools.permutations(stands_of(town, standing))))
            for stands in dice.sample(others, min(20, len(others))):
                there = tuple((hand, wealth[hand] - worth) if hand else () for (_, worth), hand in zip(town[0], stands))
                if all(what == () or what[1] >= 0 for what in there):
                    self.assertEqual(first(town, there) == first(town, standing), stands in all_stands)


class Number(unittest.TestCase):
    def test_out_of_the_lot(self):
        seen = 0
        for dice, town, standing in small_cases(50):
            all_stands = in_order(lot(town, standing))
            others = sorted(set(itertools.permutations(stands_of(town, standing))))
            for stands in dice.sample(others, min(20, len(others))):
                n = all_stands.index(stands) if stands in all_stands else None
                self.assertEqual(number(town, standing, stands), n)
                seen += n is None
        self.assertGreater(seen, 500)

    def test_what_a_hand_cannot_afford(self):
        self.assertIsNone(number(TOWN, STANDING, ("eve", "bob", "ann", "", "", "")))
        self.assertIsNone(number(((("a", 0), ("b", 5)), (("a", "b"),)), (("x", 4), ()), ("", "x")))
        self.assertEqual(number(((("a", 0), ("b", 5)), (("a", "b"),)), (("x", 5), ()), ("", "x")), 1)

    def test_what_is_none_of_its_stands(self):
        ill = ODD + [list(STANDS), STANDS[:5], (*STANDS, ""), STANDING, ("",) * 6]
        ill += [("eve", "bob", "cid", "ann", "", ""), ("eve", "bob", "eve", "ann", "", "")]
        ill += [with_thing(STANDS, k, thing) for k in range(6) for thing in ODD if thing not in ("", STANDS[k])]
        for stands in ill:
            self.assertRaises(NoStands, number, TOWN, STANDING, stands)


class Share(unittest.TestCase):
    def check_share(self, told, top, bottom):
        part = fractions.Fraction(top, bottom)
        self.assertEqual(told, (part.numerator, part.denominator))
        self.assertEqual([type(told), type(told[0]), type(told[1])], [tuple, int, int])

    def test_of_the_sample(self):
        for hand, shares in {"eve": [(1, 2), (1, 2), (0, 1), (0, 1)], "bob": [(1, 4), (1, 4), (1, 2), (0, 1)],
                             "ann": [(0, 1), (0, 1), (0, 1), (1, 1)]}.items():
            for home, told in zip(["low", "mid", "high", "low2"], shares):
                self.assertEqual(share(TOWN, STANDING, hand, home), told)
            for home in ("isle", "isle2"):
                self.assertEqual(share(TOWN, STANDING, hand, home), (0, 1))

    def test_by_all_stands_of_small_towns(self):
        for _, town, standing in small_cases(51):
            all_stands = lot(town, standing)
            for hand in wealths(town, standing):
                for place, (home, _) in enumerate(town[0]):
                    there = [stands for stands in all_stands if stands[place] == hand]
                    self.check_share(share(town, standing, hand, home), len(there), len(all_stands))

    def test_they_come_to_one(self):
        for dice, town, standing in itertools.chain(long_cases(9, 52), long_cases(9, 53, bare=True)):
            for hand in dice.sample(sorted(wealths(town, standing)), 5):
                told = [share(town, standing, hand, home) for home, _ in town[0]]
                self.assertEqual(sum(fractions.Fraction(*part) for part in told), 1)
                for top, bottom in told:
                    self.assertEqual((bottom > 0, math.gcd(top, bottom)), (True, 1))
                room = room_of(town, standing, hand)
                self.assertEqual([home for (home, _), part in zip(town[0], told) if part != (0, 1)], room)

    def test_by_what_loose_tells(self):
        for dice, town, standing in itertools.chain(poor_cases(60, 54), long_cases(6, 54)):
            room = {hand: room_of(town, standing, hand) for hand in wealths(town, standing)}
            for hand in dice.sample(sorted(room), min(5, len(room))):
                for home, _ in town[0]:
                    part = fractions.Fraction(home in room[hand], loose(town, standing, hand)[0])
                    inner = {tuple(room[other]): other for other in room
                             if home in room[other] and set(room[other]) < set(room[hand])}
                    for other in inner.values():
                        free, own = loose(town, standing, other)
                        part *= fractions.Fraction(free - own, free)
                    self.assertEqual(share(town, standing, hand, home), (part.numerator, part.denominator))

    def test_by_name(self):
        self.assertEqual(share(home="low", hand="bob", standing=STANDING, town=TOWN), (1, 4))


class Mean(unittest.TestCase):
    def test_of_the_sample(self):
        self.assertEqual(mean(TOWN, STANDING, "eve"), (5, 2))
        self.assertEqual(mean(TOWN, STANDING, "bob"), (19, 4))
        self.assertEqual(mean(TOWN, STANDING, "ann"), (11, 1))

    def test_of_no_coins(self):
        self.assertEqual(mean(((("a", 3),), ()), (("x", 0),), "x"), (0, 1))
        self.assertEqual(mean(((("a", 3), ("b", 3)), (("a", "b"),)), (("x", 0), ()), "x"), (0, 1))

    def test_by_all_stands_of_small_towns(self):
        for _, town, standing in small_cases(55):
            all_stands = lot(town, standing)
            for hand, wealth in wealths(town, standing).items():
                coins = sum(wealth - town[0][stands.index(hand)][1] for stands in all_stands)
                part = fractions.Fraction(coins, len(all_stands))
                told = mean(town, standing, hand)
                self.assertEqual(told, (part.numerator, part.denominator))
                self.assertEqual([type(told), type(told[0]), type(told[1])], [tuple, int, int])

    def test_by_shares_in_great_towns(self):
        for dice, town, standing in itertools.chain(long_cases(6, 56), [(random.Random(57), *greatest_case())]):
            for hand in dice.sample(sorted(wealths(town, standing)), 3):
                part = fractions.Fraction(wealths(town, standing)[hand])
                for home, worth in town[0]:
                    part -= worth * fractions.Fraction(*share(town, standing, hand, home))
                self.assertEqual(mean(town, standing, hand), (part.numerator, part.denominator))

    def test_by_name(self):
        self.assertEqual(mean(hand="bob", standing=STANDING, town=TOWN), (19, 4))


class Loose(unittest.TestCase):
    def test_of_the_samples(self):
        for hand, told in {"eve": (2, 1), "bob": (2, 1), "ann": (1, 1)}.items():
            self.assertEqual(loose(TOWN, STANDING, hand), told)
        for hand, told in {"rich": (1, 1), "pip": (2, 2), "poe": (2, 2), "ed": (2, 1), "hal": (2, 1)}.items():
            self.assertEqual(loose(CORNER, CORNERED, hand), told)

    def test_by_the_words_on_small_and_great_towns(self):
        for _, town, standing in itertools.chain(small_cases(58), long_cases(9, 58)):
            room = {hand: set(room_of(town, standing, hand)) for hand in wealths(town, standing)}
            for hand, own in room.items():
                told = loose(town, standing, hand)
                within = [other for other in room.values() if other < own]
                alike = [other for other in room.values() if other == own]
                self.assertEqual(told, (len(own) - len(within), len(alike)))
                self.assertEqual([type(told), type(told[0]), type(told[1])], [tuple, int, int])

    def test_by_name(self):
        self.assertEqual(loose(hand="pip", standing=CORNERED, town=CORNER), (2, 2))


class Refusals(unittest.TestCase):
    OF_GIVEN = [count, lambda *told, **rest: nth(*told, 0, **rest), lambda *told, **rest: nth(*told, None, **rest)]
    CALLS = [first, lambda *told: number(*told, STANDS), lambda *told: number(*told, None)]
    CALLS += [lambda *told, call=call, given=given: call(*told, given=given)
              for call in OF_GIVEN for given in (None, {"eve": "mid"}, {None: None})]
    CALLS += [lambda *told, call=call, hand=hand: call(*told, hand) for call in (mean, loose) for hand in ("eve", 0)]
    CALLS += [lambda *told, hand=hand, home=home: share(*told, hand, home) for hand in ("eve", 0) for home in ("mid", 0)]

    def test_what_is_no_town_or_standing_ahead_of_all(self):
        check_refused(self, self.CALLS)

    def test_what_is_no_hand_or_home(self):
        check_no_hand(self, mean)
        check_no_hand(self, loose)
        for home in ("low", "nobody", None):
            check_no_hand(self, share, home)
        check_no_home(self, share, "eve")

    def test_keys_that_are_no_hands(self):
        for call in self.OF_GIVEN:
            for hand in filter(can_key, NO_HANDS):
                for home in ("low", "nobody", None):
                    for given in ({hand: home}, {"eve": "low", hand: home}, {"eve": "isle", hand: home},
                                  {hand: home, "eve": "nobody"}):
                        with self.assertRaises(NoHand) as caught:
                            call(TOWN, STANDING, given=given)
                        self.assertIs(caught.exception.name, hand)

    def test_things_that_are_no_homes(self):
        for call in self.OF_GIVEN:
            for home in NO_HOMES:
                for given in ({"eve": home}, {"bob": "low", "eve": home}, {"bob": "isle", "eve": home},
                              {"eve": home, "cid": "low"}, {"eve": home, "bob": "nobody"}):
                    with self.assertRaises(NoHome) as caught:
                        call(TOWN, STANDING, given=given)
                    self.assertIs(caught.exception.name, home)

    def test_what_was_told_is_the_askers_own(self):
        check_own(self, lambda: nth(TOWN, STANDING, 2))
        check_own(self, lambda: share(TOWN, STANDING, "bob", "low"))


if __name__ == "__main__":
    unittest.main()
