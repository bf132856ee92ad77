"""Towns and standings: [5], [6], [7], and of them [2] and [3]."""

import copy
import itertools
import unittest

from samples import (NAMES, NO_NAMES, NO_TUPLES, NO_WORTHS, ODD, STANDING, STANDS, TOWN, WEALTHS, named, random_cases,
                     with_thing)
from worthrooms.errors import NoStanding, NoStands, NoTown, Short
from worthrooms.towns import placed, standing_wrong, stands_of, town_wrong, wealths


def entry(thing):
    return type(thing) is tuple and len(thing) == 2 and named(thing[0]) and type(thing[1]) is int and thing[1] >= 0


def town_fault(thing):
    """What [5] says of anything, told once more in other words."""
    if type(thing) is not tuple or [type(part) for part in thing] != [tuple, tuple] or len(thing[0]) == 0:
        return ("town",)
    homes, roads = thing
    for k in range(len(homes)):
        if not entry(homes[k]) or homes[k][0] in [home[0] for home in homes[:k]]:
            return ("home", k)
    names = [home[0] for home in homes]
    for k in range(len(roads)):
        road = roads[k]
        if type(road) is not tuple or len(road) != 2 or any(end not in names for end in road) or road[0] == road[1]:
            return ("road", k)
        if sorted(road) in [sorted(ahead) for ahead in roads[:k]]:
            return ("road", k)
    return None


def standing_fault(town, thing):
    """What [6] says of anything, told once more in other words."""
    if type(thing) is not tuple or len(thing) != len(town[0]):
        return ("standing",)
    for k in range(len(thing)):
        if type(thing[k]) is tuple and len(thing[k]) == 0:
            continue
        if not entry(thing[k]) or thing[k][0] in [ahead[0] for ahead in thing[:k] if ahead]:
            return ("hand", k)
    return None


class TownWrong(unittest.TestCase):
    def test_towns(self):
        for town in [TOWN, ((("a", 0),), ()), ((("a", 10 ** 9 - 1), ("b", 0)), (("b", "a"),))]:
            self.assertIsNone(town_wrong(town))

    def test_no_tuple_of_two_tuples(self):
        for thing in NO_TUPLES + [(), (TOWN[0],), (*TOWN, ()), list(TOWN), (list(TOWN[0]), TOWN[1])]:
            self.assertEqual(town_wrong(thing), ("town",))
        for thing in NO_TUPLES:
            self.assertEqual(town_wrong((thing, ())), ("town",))
            self.assertEqual(town_wrong((TOWN[0], thing)), ("town",))

    def test_no_home_at_all(self):
        self.assertEqual(town_wrong(((), ())), ("town",))
        self.assertEqual(town_wrong(((), (("a", "b"),))), ("town",))

    def test_names(self):
        for name in NAMES:
            self.assertIsNone(town_wrong(((("q", 1), (name, 1)), ((name, "q"),))))
        for name in NO_NAMES + NO_WORTHS:
            if name != "a":
                self.assertEqual(town_wrong(((("q", 1), (name, 1)), ())), ("home", 1), repr(name))

    def test_each_sign(self):
        for sign in map(chr, range(0x250)):
            first = None if "a" <= sign <= "z" else ("home", 0)
            later = None if "a" <= sign <= "z" or "0" <= sign <= "9" else ("home", 0)
            self.assertEqual(town_wrong((((sign, 1),), ())), first)
            self.assertEqual(town_wrong(((("a" + sign, 1),), ())), later)
            self.assertEqual(town_wrong(((("abcdefg" + sign, 1),), ())), later)

    def test_worths(self):
        for worth in NO_WORTHS:
            self.assertEqual(town_wrong(((("a", 0), ("b", worth)), ())), ("home", 1), repr(worth))

    def test_homes_of_other_forms(self):
        for home in NO_TUPLES + [(), ("b",), ("b", 1, 2), (1, "b"), ("b", "b"), ["b", 1], (("b", 1),)]:
            self.assertEqual(town_wrong(((("a", 0), home, ("c", 0)), ())), ("home", 1))

    def test_a_home_told_twice(self):
        self.assertEqual(town_wrong(((("a", 0), ("b", 1), ("a", 2)), ())), ("home", 2))
        self.assertEqual(town_wrong(((("a", 0), ("a", 0), ("b", 1)), ())), ("home", 1))

    def test_roads_of_other_forms(self):
        homes = (("a", 0), ("b", 1), ("c", 1))
        ill = NO_TUPLES + [(), ("a",), ("a", "b", "c"), ["a", "c"], "ac", ("a", "d"), ("d", "a"), ("A", "b")]
        ill += [("a", thing) for thing in NO_WORTHS + NO_NAMES] + [(thing, "c") for thing in NO_TUPLES if thing != "a"]
        for road in ill:
            self.assertEqual(town_wrong((homes, (("a", "b"), road))), ("road", 1), repr(road))

    def test_a_road_from_a_home_to_itself(self):
        self.assertEqual(town_wrong(((("a", 0), ("b", 0)), (("a", "a"),))), ("road", 0))

    def test_a_road_told_twice(self):
        homes = (("a", 0), ("b", 1), ("c", 1))
        for again in [("a", "b"), ("b", "a")]:
            self.assertEqual(town_wrong((homes, (("a", "b"), ("b", "c"), again))), ("road", 2))

    def test_the_first_of_several_faults(self):
        self.assertEqual(town_wrong(([("A", 0)], [])), ("town",))
        self.assertEqual(town_wrong(((("A", 0), ("B", 0)), (("a", "b"),))), ("home", 0))
        self.assertEqual(town_wrong(((("a", 0), ("b", -1)), (("a", "a"), None))), ("home", 1))
        self.assertEqual(town_wrong(((("a", 0), ("b", 1)), (("a", "a"), ("b", "b")))), ("road", 0))
        self.assertEqual(town_wrong(((("a", 0), ("b", 1)), (("b", "a"), ("a", "b"), ("b", "b")))), ("road", 1))

    def test_odd_things_at_one_or_two_places(self):
        spots = [(part, k) for part in (0, 1) for k in range(len(TOWN[part]))]
        for (one, other), thing in itertools.product(itertools.product(spots, repeat=2), ODD):
            changed = TOWN
            for (part, k), put in ((one, thing), (other, ("low", 4))):
                changed = with_thing(changed, part, with_thing(changed[part], k, put))
            self.assertEqual(town_wrong(changed), town_fault(changed), repr(changed))

    def test_odd_things_inside_a_home_and_a_road(self):
        for thing, k, end in itertools.product(ODD + NO_NAMES, range(4), range(2)):
            for part in (0, 1):
                inner = with_thing(TOWN[part][k], end, thing)
                changed = with_thing(TOWN, part, with_thing(TOWN[part], k, inner))
                self.assertEqual(town_wrong(changed), town_fault(changed), repr(changed))

    def test_by_name(self):
        self.assertIsNone(town_wrong(thing=TOWN))

    def test_the_bounds(self):
        homes = tuple((f"h{k}", 10 ** 9 - 1 - k % 20) for k in range(40))
        pairs = list(itertools.combinations([name for name, _ in homes], 2))[:80]
        self.assertIsNone(town_wrong((homes, tuple(pairs))))
        self.assertEqual(town_wrong((homes, (*pairs, pairs[0][::-1]))), ("road", 80))


class StandingWrong(unittest.TestCase):
    def test_standings(self):
        for standing in [STANDING, ((),) * 6, (("low", 0), ("a2345678", 10 ** 9), (), (), (), ("z", 1))]:
            self.assertIsNone(standing_wrong(TOWN, standing))

    def test_no_tuple_of_as_many(self):
        for thing in NO_TUPLES + [(), STANDING[:5], (*STANDING, ()), list(STANDING), (STANDING,)]:
            self.assertEqual(standing_wrong(TOWN, thing), ("standing",))

    def test_hands_of_other_forms(self):
        for thing in NO_TUPLES + [("a",), ("a", 1, 2), ["a", 1], ((),), ("", 0), ("", "")]:
            self.assertEqual(standing_wrong(TOWN, with_thing(STANDING, 2, thing)), ("hand", 2), repr(thing))

    def test_names_and_coins(self):
        for name in NAMES:
            self.assertIsNone(standing_wrong(TOWN, with_thing(STANDING, 5, (name, 0))))
        for name in NO_NAMES + [None, True, 0, [], {}, ("a",)]:
            self.assertEqual(standing_wrong(TOWN, with_thing(STANDING, 5, (name, 0))), ("hand", 5))
        for coins in NO_WORTHS:
            self.assertEqual(standing_wrong(TOWN, with_thing(STANDING, 0, ("eve", coins))), ("hand", 0))

    def test_a_hand_twice(self):
        self.assertEqual(standing_wrong(TOWN, with_thing(STANDING, 5, ("eve", 0))), ("hand", 5))
        self.assertEqual(standing_wrong(TOWN, with_thing(STANDING, 1, ("eve", 5))), ("hand", 1))

    def test_the_first_of_several_faults(self):
        self.assertEqual(standing_wrong(TOWN, (("A", 0), ())), ("standing",))
        self.assertEqual(standing_wrong(TOWN, ((), ("a", 0), ("a", -1), ("A", 0), None, 0)), ("hand", 2))

    def test_odd_things_at_one_or_two_places(self):
        for one, other, thing in itertools.product(range(6), range(6), ODD):
            changed = with_thing(with_thing(STANDING, one, thing), other, ("eve", 3))
            self.assertEqual(standing_wrong(TOWN, changed), standing_fault(TOWN, changed), repr(changed))

    def test_what_is_no_town_is_refused_ahead(self):
        for thing in (STANDING, None):
            with self.assertRaises(NoTown) as caught:
                standing_wrong(((("a", 0), ("a", 0)), ()), thing)
            self.assertEqual(caught.exception.wrong, ("home", 1))

    def test_by_name(self):
        self.assertEqual(standing_wrong(thing=None, town=TOWN), ("standing",))


class Wealths(unittest.TestCase):
    def test_wealths_in_the_order_of_hands(self):
        self.assertEqual(list(wealths(TOWN, STANDING).items()), list(WEALTHS.items()))
        homes = tuple((f"h{k}", k) for k in range(5))
        standing = (("b", 1), ("a10", 0), ("a9", 10 ** 40), ("a", 0), ("z", 9))
        told = [("a", 3), ("a10", 1), ("a9", 10 ** 40 + 2), ("b", 1), ("z", 13)]
        self.assertEqual(list(wealths((homes, ()), standing).items()), told)

    def test_nobody(self):
        self.assertEqual(wealths(TOWN, ((),) * 6), {})
        self.assertEqual(stands_of(TOWN, ((),) * 6), ("",) * 6)

    def test_stands(self):
        self.assertEqual(stands_of(TOWN, STANDING), STANDS)

    def test_what_was_told_is_the_askers_own(self):
        told = wealths(TOWN, STANDING)
        told["ann"] = 0
        told.clear()
        self.assertEqual(wealths(TOWN, STANDING), WEALTHS)

    def test_by_name(self):
        self.assertEqual(wealths(standing=STANDING, town=TOWN), WEALTHS)
        self.assertEqual(stands_of(standing=STANDING, town=TOWN), STANDS)


class Placed(unittest.TestCase):
    def test_placed(self):
        told = placed(TOWN, STANDING, ("ann", "eve", "bob", "", "", ""))
        self.assertEqual(told, (("ann", 11), ("eve", 0), ("bob", 0), (), (), ()))
        self.assertEqual(placed(TOWN, STANDING, ("", "", "", "eve", "ann", "bob")),
                         ((), (), (), ("eve", 5), ("ann", 8), ("bob", 9)))

    def test_where_they_stand(self):
        self.assertEqual(placed(TOWN, STANDING, STANDS), STANDING)
        self.assertEqual(placed(TOWN, ((),) * 6, ("",) * 6), ((),) * 6)

    def test_what_is_none_of_its_stands(self):
        ill = NO_TUPLES + [(), list(STANDS), STANDS[:5], (*STANDS, ""), STANDING, ("",) * 6]
        ill += [("eve", "bob", "", "", "", ""), ("eve", "bob", "cid", "ann", "", ""), ("eve", "bob", "eve", "ann", "", "")]
        ill += [("eve", "eve", "", "ann", "", ""), ("eve", "bob", "", "Ann", "", ""), ("cid", "bob", "", "ann", "", "")]
        ill += [with_thing(STANDS, k, thing) for k in range(6) for thing in ODD if thing not in ("", STANDS[k])]
        for stands in ill:
            self.assertRaises(NoStands, placed, TOWN, STANDING, stands)

    def test_no_stands_ahead_of_short(self):
        self.assertRaises(NoStands, placed, TOWN, STANDING, ("", "", "eve", "", "", "bob"))

    def test_short_of_the_first_in_the_order_of_hands(self):
        town = ((("x", 0), ("y", 20), ("z", 30), ("w", 0)), ())
        standing = (("cid", 3), (), (), ("bob", 8))
        cases = [(("", "cid", "bob", ""), "bob", 22), (("", "bob", "cid", ""), "bob", 12), (("bob", "cid", "", ""), "cid", 17)]
        for stands, hand, lacks in cases:
            with self.assertRaises(Short) as caught:
                placed(town, standing, stands)
            found = caught.exception
            self.assertEqual((found.hand, found.lacks, found.at), (hand, lacks, None))

    def test_short_by_one_coin_and_by_none(self):
        for coins in range(11, 14):
            standing = ((), (), (), ("ann", coins), (), ())
            stands = ("", "", "ann", "", "", "")
            if coins < 12:
                with self.assertRaises(Short) as caught:
                    placed(TOWN, standing, stands)
                self.assertEqual((caught.exception.hand, caught.exception.lacks), ("ann", 1))
            else:
                self.assertEqual(placed(TOWN, standing, stands), ((), (), ("ann", coins - 12), (), (), ()))

    def test_any_stands_of_small_towns(self):
        for dice, town, standing in random_cases(200, 6):
            stands = list(stands_of(town, standing))
            dice.shuffle(stands)
            wealth = wealths(town, standing)
            owing = {h: worth - wealth[h] for h, (_, worth) in zip(stands, town[0]) if h and worth > wealth[h]}
            if owing:
                with self.assertRaises(Short) as caught:
                    placed(town, standing, tuple(stands))
                hand = min(owing)
                self.assertEqual((caught.exception.hand, caught.exception.lacks), (hand, owing[hand]))
            else:
                told = placed(town, standing, tuple(stands))
                self.assertIsNone(standing_wrong(town, told))
                self.assertEqual(stands_of(town, told), tuple(stands))
                self.assertEqual(list(wealths(town, told).items()), list(wealth.items()))
                self.assertEqual(placed(town, told, stands_of(town, standing)), standing)

    def test_by_name(self):
        self.assertEqual(placed(stands=STANDS, standing=STANDING, town=TOWN), STANDING)


class Refusals(unittest.TestCase):
    CALLS = [wealths, stands_of, lambda town, standing: placed(town, standing, None)]

    def test_what_is_no_town(self):
        for call, thing in itertools.product(self.CALLS, [None, (), (TOWN[0], (("low", "low"),)), ((("A", 0),), ())]):
            for standing in (STANDING, None):
                with self.assertRaises(NoTown) as caught:
                    call(thing, standing)
                self.assertEqual(caught.exception.wrong, town_fault(thing))
                self.assertIsNotNone(caught.exception.wrong)

    def test_what_is_no_standing(self):
        for call, thing in itertools.product(self.CALLS, [None, list(STANDING), with_thing(STANDING, 3, None)]):
            with self.assertRaises(NoStanding) as caught:
                call(TOWN, thing)
            self.assertEqual(caught.exception.wrong, standing_fault(TOWN, thing))
            self.assertIsNotNone(caught.exception.wrong)


class NothingIsChanged(unittest.TestCase):
    def test_what_is_handed_in(self):
        homes = [["a", 1], ("b", {"c": [2]})]
        for thing in [homes, (homes, []), (tuple(homes), ()), ((("a", 1), ("b", [2])), ([],))]:
            ahead = copy.deepcopy(thing)
            town_wrong(thing)
            standing_wrong(TOWN, thing)
            self.assertRaises(NoStands, placed, TOWN, STANDING, thing)
            self.assertEqual(thing, ahead)


if __name__ == "__main__":
    unittest.main()
