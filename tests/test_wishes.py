"""Wishes: [40], [41], [7], and of them [1], [2] and [3]."""

import copy
import itertools
import unittest

from samples import (CORNER, CORNERED, NO_HANDS, NO_HOMES, ODD, STANDING, STANDS, TOWN, can_key, changed_paper,
                     check_own, check_refused, greatest_case, long_cases, lot, poor_cases, random_cases,
                     shuffled_in_rooms, with_thing)
from worthrooms.errors import NoHand, NoHome
from worthrooms.rooms import in_lot, room_of
from worthrooms.towns import placed, stands_of, wealths
from worthrooms.walls import fence, fence_wrong
from worthrooms.wishes import by_coins, granted, granted_wrong, left

# The crowd of eve, who can only be in two homes, and bob, both in the low one.
CROWD = ([["low2"]], [("bob", ["low", "mid", "high"]), ("eve", ["low", "mid"])])
LOW = {"bob": ["low"], "eve": ["low"]}


def small_cases(seed):
    return itertools.chain(random_cases(40, seed), poor_cases(200, seed))


def some_wishes(dice, town, standing):
    """Wishes of some hands for some homes, in and out of their rooms, in any order, some twice."""
    names = [name for name, _ in town[0]]
    hands = sorted(wealths(town, standing))
    dice.shuffle(hands)
    wishes = {}
    for hand in hands:
        if dice.random() < 0.7:
            among = room_of(town, standing, hand) if dice.random() < 0.8 else names
            wishes[hand] = [dice.choice(among) for _ in range(dice.choice([1, 1, 2, 2, 3]))]
            if dice.random() < 0.03:
                wishes[hand] = []
    return wishes


def granting(town, all_stands, wishes):
    """Those of the STANDS that grant all wishes."""
    names = [name for name, _ in town[0]]
    return [stands for stands in all_stands if all(names[stands.index(hand)] in wishes[hand] for hand in wishes)]


def all_rooms(town, standing):
    return {hand: room_of(town, standing, hand) for hand in wealths(town, standing)}


def crowd_fault(town, standing, wishes, paper):
    """What granted_wrong should tell of a crowd that is right by form, by the words of 41."""
    walls, fences = paper
    homes = set()
    for hand, fenced in fences:
        fault = fence_wrong(town, standing, hand, (walls, fenced))
        if fault is not None:
            return fault
        homes |= set(fenced) & set(wishes.get(hand, fenced))
    return None if len(homes) < len(fences) else ("many",)


class Granted(unittest.TestCase):
    def check(self, town, standing, wishes, can):
        """What granted tells, where it can be told whether they can be granted."""
        told = granted(town, standing, wishes)
        if can is not None:
            self.assertEqual(told[0], "granted" if can else "crowd")
        if told[0] == "granted":
            self.assertEqual(len(told), 2)
            self.assertTrue(in_lot(town, standing, told[1]))
            self.assertEqual(granting(town, [told[1]], wishes), [told[1]])
        else:
            word, (walls, fences) = told
            self.assertEqual(word, "crowd")
            self.assertGreater(len(fences), 0)
            self.assertEqual(len({hand for hand, _ in fences}), len(fences))
            self.assertIsNone(crowd_fault(town, standing, wishes, (walls, fences)))
        self.assertIsNone(granted_wrong(town, standing, wishes, told))
        return told

    def test_of_the_sample(self):
        self.check(TOWN, STANDING, {}, True)
        self.check(TOWN, STANDING, {"bob": ["low"]}, True)
        self.check(TOWN, STANDING, {"bob": ["low"], "eve": ["low", "mid"]}, True)
        self.assertEqual(granted(TOWN, STANDING, {"bob": ["low"]}), ("granted", ("bob", "eve", "", "ann", "", "")))
        told = granted(TOWN, STANDING, {"eve": ["mid"], "bob": ["isle", "high"]})
        self.assertEqual(told, ("granted", ("", "eve", "bob", "ann", "", "")))
        self.check(TOWN, STANDING, LOW, False)

    def test_lists_of_nothing(self):
        for wishes in ({"eve": []}, {"eve": ["low"], "ann": []}, {"ann": [], "eve": [], "bob": []}):
            self.check(TOWN, STANDING, wishes, False)

    def test_a_home_told_twice_is_as_once(self):
        self.check(TOWN, STANDING, {"bob": ["low", "low"], "eve": ["mid"] * 3}, True)
        self.check(TOWN, STANDING, {"bob": ["low", "low"], "eve": ["low"] * 3}, False)

    def test_homes_out_of_the_room(self):
        for hand, homes in {"eve": ["high", "isle"], "ann": ["low", "mid"], "bob": ["low2", "isle2"]}.items():
            self.check(TOWN, STANDING, {hand: homes}, False)
            self.check(TOWN, STANDING, {hand: homes + room_of(TOWN, STANDING, hand)[:1]}, True)

    def test_hands_without_a_wish_may_stand_anywhere_in_their_rooms(self):
        self.check(CORNER, CORNERED, {"hal": ["east", "yard"]}, True)
        self.check(CORNER, CORNERED, {"hal": ["east"], "ed": ["yard"]}, True)
        self.check(CORNER, CORNERED, {"pip": ["c1"]}, True)
        # One who is poor must stay in the cheap homes, so the rich ones can't have both.
        town = ((("a", 0), ("b", 0), ("c", 5)), (("a", "b"), ("b", "c")))
        standing = (("x", 1), ("y", 5), ("z", 5))
        self.check(town, standing, {"y": ["c"], "z": ["b"]}, True)
        self.check(town, standing, {"y": ["a", "b"], "z": ["a", "b"]}, False)
        self.check(town, with_thing(standing, 1, ("y", 2)), {"z": ["a", "b"]}, False)

    def test_nobody(self):
        self.assertEqual(granted(TOWN, ((),) * 6, {}), ("granted", ("",) * 6))

    def test_by_all_stands_of_small_towns(self):
        seen = {True: 0, False: 0}
        for dice, town, standing in small_cases(100):
            all_stands = lot(town, standing)
            for _ in range(4):
                wishes = some_wishes(dice, town, standing)
                can = granting(town, all_stands, wishes) != []
                self.check(town, standing, wishes, can)
                seen[can] += 1
        self.assertGreater(min(seen.values()), 200)

    def test_in_great_towns(self):
        seen = {"granted": 0, "crowd": 0}
        for dice, town, standing in itertools.chain(long_cases(9, 101), long_cases(9, 102, bare=True)):
            room = all_rooms(town, standing)
            stands = shuffled_in_rooms(dice, town, room)
            names = [name for name, _ in town[0]]
            # Each may have the home that it has in these STANDS, if not another one.
            wishes = {hand: [names[stands.index(hand)], dice.choice(names)] for hand in sorted(room)}
            self.check(town, standing, wishes, True)
            wishes = {hand: [names[stands.index(hand)]] for hand in room}
            self.assertEqual(granted(town, standing, wishes), ("granted", stands))
            one, other = dice.sample(sorted(room), 2)
            wishes[one] = wishes[other]
            self.check(town, standing, wishes, False)
            for _ in range(3):
                seen[self.check(town, standing, some_wishes(dice, town, standing), None)[0]] += 1
        self.assertGreater(seen["crowd"], 10)

    def test_in_the_greatest_town(self):
        town, standing = greatest_case()
        room = all_rooms(town, standing)
        rich = sorted(hand for hand in room if len(room[hand]) == 40)
        homes = [home for home, _ in town[0]]
        self.check(town, standing, {hand: homes[-len(rich):] for hand in rich}, None)
        self.check(town, standing, {hand: homes[1 - len(rich):] for hand in rich}, False)

    def test_what_was_told_is_the_askers_own(self):
        check_own(self, lambda: granted(TOWN, STANDING, LOW))
        check_own(self, lambda: granted(CORNER, CORNERED, {"pip": [], "poe": []}))

    def test_what_is_handed_in_stays(self):
        wishes = {"eve": ["mid", "low"], "bob": ["high", "high"]}
        for call in (granted, left, lambda *told: granted_wrong(*told, None)):
            call(TOWN, STANDING, wishes)
            self.assertEqual(list(wishes.items()), [("eve", ["mid", "low"]), ("bob", ["high", "high"])])
        told = left(TOWN, STANDING, wishes)
        wishes["eve"].clear()
        self.assertEqual(told, {"ann": ["low2"], "bob": ["high"], "eve": ["low", "mid"]})

    def test_by_name(self):
        self.assertEqual(granted(wishes={"bob": ["low"]}, standing=STANDING, town=TOWN)[0], "granted")


class GrantedWrong(unittest.TestCase):
    def check(self, wishes, thing, fault):
        self.assertEqual(granted_wrong(TOWN, STANDING, wishes, thing), fault, thing)

    def test_granted(self):
        self.check({}, ("granted", STANDS), None)
        self.check({"eve": ["low"]}, ("granted", STANDS), None)
        self.check({"bob": ["low"]}, ("granted", ("bob", "eve", "", "ann", "", "")), None)

    def test_the_first_hand_out_of_its_room_or_list(self):
        self.check({"eve": ["mid"]}, ("granted", STANDS), ("stands", "eve"))
        self.check({"eve": []}, ("granted", STANDS), ("stands", "eve"))
        self.check({"eve": ["mid"], "bob": ["low"]}, ("granted", STANDS), ("stands", "bob"))
        self.check({"eve": ["mid"], "ann": ["isle"]}, ("granted", STANDS), ("stands", "ann"))
        self.check({}, ("granted", ("eve", "bob", "ann", "", "", "")), ("stands", "ann"))
        self.check({"ann": ["high"]}, ("granted", ("eve", "bob", "ann", "", "", "")), ("stands", "ann"))
        self.check({"bob": ["low"]}, ("granted", ("", "bob", "eve", "ann", "", "")), ("stands", "bob"))
        self.check({"bob": ["mid"]}, ("granted", ("", "bob", "eve", "ann", "", "")), ("stands", "eve"))
        self.check({"eve": ["isle"]}, ("granted", ("", "bob", "", "ann", "eve", "")), ("stands", "eve"))

    def test_no_paper(self):
        walls, fences = CROWD
        ill = [thing for thing in ODD] + ["granted", ("granted",), ["granted", STANDS], ("granted", STANDS, None)]
        ill += [("Granted", STANDS), (None, STANDS), ({}, STANDS), ("crowd", STANDS), ("granted", CROWD)]
        ill += [("granted", list(STANDS)), ("granted", STANDS[:5]), ("granted", STANDING), ("granted", ("",) * 6)]
        ill += [("granted", with_thing(STANDS, k, thing)) for k in range(6) for thing in ODD if thing not in ("", STANDS[k])]
        ill += [("crowd",), ["crowd", CROWD], ("crowd", CROWD, None), ("Crowd", CROWD), (None, CROWD)]
        ill += [("crowd", paper) for paper in ODD + [list(CROWD), (walls,), (walls, fences, []), (fences, walls)]]
        ill += [("crowd", (thing, fences)) for thing in ODD if thing != []]
        ill += [("crowd", (thing, fences)) for thing in ([[]], [["low2", "low2"]], [["eve"]], [("low2",)], (["low2"],))]
        ill += [("crowd", (walls, thing)) for thing in ODD + [tuple(fences), dict(fences), fences + fences[:1]]]
        ill += [("crowd", (walls, [*fences, thing])) for thing in ODD]
        ill += [("crowd", (walls, [*fences, (hand, ["low2"])])) for hand in NO_HANDS + ["eve", "bob"]]
        ill += [("crowd", (walls, [*fences, ("ann", thing)])) for thing in ODD if thing not in ([],)]
        ill += [("crowd", (walls, [*fences, ("ann", thing)])) for thing in (["low", "low"], ["ann"], [["low"]], ("low",))]
        ill += [("crowd", (walls, [*fences, thing])) for thing in (["ann", ["low2"]], ("ann", ["low2"], None), ("ann",))]
        for wishes in ({}, LOW, {"ann": []}):
            for thing in ill:
                self.check(wishes, thing, ("paper",))

    def test_a_crowd(self):
        self.check(LOW, ("crowd", CROWD), None)
        self.check({"eve": []}, ("crowd", ([], [("eve", ["low", "mid"])])), None)
        self.check({"eve": ["isle", "high"]}, ("crowd", ([["low2"]], [("eve", ["mid", "low"])])), None)
        self.check({"ann": ["low"]}, ("crowd", ([], [("ann", ["low2"])])), None)

    def test_what_fence_wrong_tells(self):
        walls, fences = CROWD
        self.check(LOW, ("crowd", ([["mid"]], fences)), ("wall", 0, "mid", "low"))
        self.check(LOW, ("crowd", (walls, [("eve", ["low"]), *fences[:1]])), ("fence", "low", "mid"))
        self.check(LOW, ("crowd", (walls, [*fences[:1], ("eve", ["low"])])), ("fence", "low", "mid"))
        self.check(LOW, ("crowd", (walls, [*fences[:1], ("eve", [])])), ("home",))
        self.check(LOW, ("crowd", ([], fences)), ("fence", "high", "low2"))
        self.check(LOW, ("crowd", ([], fences[::-1])), ("fence", "high", "low2"))
        self.check(LOW, ("crowd", ([], [("ann", []), *fences])), ("home",))

    def test_the_paper_of_all_fences_ahead_of_what_is_wrong_with_the_first(self):
        for fenced in (["low2", "low2"], ["ann"], [["low2"]], ("low2",), None):
            self.check(LOW, ("crowd", ([], [("eve", []), ("ann", fenced)])), ("paper",))
            self.check(LOW, ("crowd", ([["mid"]], [("eve", ["low"]), ("ann", fenced)])), ("paper",))

    def test_too_many_homes(self):
        walls, fences = CROWD
        self.check({}, ("crowd", CROWD), ("many",))
        self.check({"bob": ["low"]}, ("crowd", CROWD), ("many",))
        self.check({"bob": ["low"], "eve": ["low", "mid"]}, ("crowd", CROWD), ("many",))
        self.check({"bob": ["low"], "eve": ["low", "isle"]}, ("crowd", CROWD), None)
        self.check({"bob": ["low", "low2"], "eve": ["low", "isle"]}, ("crowd", CROWD), None)
        self.check({"bob": ["low"], "eve": ["low"]}, ("crowd", (walls, fences[:1])), ("many",))
        self.check({"bob": [], "eve": ["low"]}, ("crowd", (walls, fences[:1])), None)
        self.check({"bob": ["low"], "eve": ["low"]}, ("crowd", (walls, fences + [("ann", ["low2"])])), None)
        self.check({"eve": ["high"]}, ("crowd", ([], [("eve", ["low", "mid", "isle", "isle2"])])), None)
        self.check({"eve": ["isle"]}, ("crowd", ([], [("eve", ["low", "mid", "isle", "isle2"])])), ("many",))

    def test_changed_papers_on_small_towns(self):
        seen = {}
        for dice, town, standing in small_cases(103):
            room = all_rooms(town, standing)
            names = [name for name, _ in town[0]]
            for _ in range(6):
                wishes = some_wishes(dice, town, standing)
                hands = dice.sample(sorted(room), dice.randint(0, len(room)))
                if not hands:
                    continue
                walls = fence(town, standing, hands[0])[0]
                fences = [(hand, room[hand]) for hand in hands]
                if dice.random() < 0.3:
                    walls, changed = changed_paper(dice, names, (walls, fences[0][1]))
                    fences[0] = (hands[0], changed)
                fault = crowd_fault(town, standing, wishes, (walls, fences))
                self.assertEqual(granted_wrong(town, standing, wishes, ("crowd", (walls, fences))), fault)
                seen[fault and fault[0]] = seen.get(fault and fault[0], 0) + 1
        self.assertEqual(set(seen), {None, "wall", "home", "fence", "many"})
        self.assertGreater(min(seen.values()), 10)

    def test_stands_on_small_towns(self):
        seen = {True: 0, False: 0}
        for dice, town, standing in small_cases(104):
            room = all_rooms(town, standing)
            names = [name for name, _ in town[0]]
            others = sorted(set(itertools.permutations(stands_of(town, standing))))
            for stands in dice.sample(others, min(4, len(others))) + [shuffled_in_rooms(dice, town, room)]:
                wishes = {hand: homes for hand, homes in some_wishes(dice, town, standing).items() if dice.random() < 0.4}
                home = {hand: names[stands.index(hand)] for hand in room}
                ill = [hand for hand in sorted(room) if home[hand] not in room[hand]
                       or hand in wishes and home[hand] not in wishes[hand]]
                fault = ("stands", ill[0]) if ill else None
                self.assertEqual(granted_wrong(town, standing, wishes, ("granted", stands)), fault)
                seen[fault is None] += 1
        self.assertGreater(min(seen.values()), 100)

    def test_what_is_handed_in_stays(self):
        for thing in [("crowd", copy.deepcopy(CROWD)), ("crowd", ([["low"], []], [("eve", [[]])])), ("granted", STANDS)]:
            ahead = copy.deepcopy(thing)
            granted_wrong(TOWN, STANDING, LOW, thing)
            self.assertEqual(thing, ahead)

    def test_by_name(self):
        self.assertIsNone(granted_wrong(thing=("crowd", CROWD), wishes=LOW, standing=STANDING, town=TOWN))


class Left(unittest.TestCase):
    def test_of_the_sample(self):
        self.assertEqual(left(TOWN, STANDING, {}), {"ann": ["low2"], "bob": ["low", "mid", "high"], "eve": ["low", "mid"]})
        told = left(TOWN, STANDING, {"bob": ["isle", "mid", "mid"]})
        self.assertEqual(told, {"ann": ["low2"], "bob": ["mid"], "eve": ["low"]})
        self.assertEqual(list(told), ["ann", "bob", "eve"])

    def test_nothing_for_all_where_they_cannot_be_granted(self):
        for wishes in (LOW, {"eve": []}, {"ann": ["low", "high"]}):
            self.assertEqual(left(TOWN, STANDING, wishes), {"ann": [], "bob": [], "eve": []})

    def test_nobody(self):
        self.assertEqual(left(TOWN, ((),) * 6, {}), {})

    def test_by_all_stands_of_small_towns(self):
        seen = 0
        for dice, town, standing in small_cases(105):
            all_stands = lot(town, standing)
            names = [name for name, _ in town[0]]
            for _ in range(3):
                wishes = some_wishes(dice, town, standing)
                can = granting(town, all_stands, wishes)
                told = left(town, standing, wishes)
                self.assertEqual(list(told), sorted(wealths(town, standing)))
                for hand, homes in told.items():
                    there = {names[stands.index(hand)] for stands in can}
                    self.assertEqual(homes, [name for name in names if name in there])
                    seen += len(homes)
        self.assertGreater(seen, 500)

    def test_in_great_towns(self):
        for dice, town, standing in itertools.chain(long_cases(4, 106), long_cases(4, 107, bare=True)):
            room = all_rooms(town, standing)
            names = [name for name, _ in town[0]]
            self.assertEqual(left(town, standing, {}), room)
            stands = shuffled_in_rooms(dice, town, room)
            wishes = {hand: [names[stands.index(hand)], *dice.sample(names, 3)] for hand in sorted(room)}
            told = left(town, standing, wishes)
            for hand in dice.sample(sorted(room), 4):
                for name in names:
                    if name in room[hand] and name in wishes[hand]:
                        can = granted(town, standing, {**wishes, hand: [name]})[0] == "granted"
                        self.assertEqual(name in told[hand], can)
                    else:
                        self.assertNotIn(name, told[hand])

    def test_in_the_greatest_town(self):
        town, standing = greatest_case()
        self.assertEqual(left(town, standing, {}), all_rooms(town, standing))

    def test_what_was_told_is_the_askers_own(self):
        check_own(self, lambda: left(TOWN, STANDING, {}))
        check_own(self, lambda: left(TOWN, STANDING, LOW))
        check_own(self, lambda: left(CORNER, CORNERED, {"ed": ["east"]}))

    def test_by_name(self):
        self.assertEqual(left(wishes=LOW, standing=STANDING, town=TOWN), {"ann": [], "bob": [], "eve": []})


class ByCoins(unittest.TestCase):
    def test_of_the_sample(self):
        told = by_coins(TOWN, STANDING, {"eve": 2, "bob": 12, "ann": 8})
        self.assertEqual(told, {"ann": ["isle", "isle2"], "bob": ["low", "low2"], "eve": ["isle", "isle2"]})
        self.assertEqual(list(told), ["ann", "bob", "eve"])
        self.assertEqual(by_coins(TOWN, STANDING, {"eve": 5}), {"eve": ["low", "low2"]})
        self.assertEqual(by_coins(TOWN, STANDING, {"bob": 0, "eve": 0}), {"bob": ["high"], "eve": ["mid"]})
        self.assertEqual(by_coins(TOWN, STANDING, {}), {})

    def test_numbers_that_cannot_be(self):
        self.assertEqual(by_coins(TOWN, STANDING, {"eve": 1, "bob": 6, "ann": 12}), {"ann": [], "bob": [], "eve": []})
        self.assertEqual(by_coins(TOWN, STANDING, {"eve": 10 ** 9}), {"eve": []})

    def test_numbers_below_0(self):
        self.assertEqual(by_coins(TOWN, STANDING, {"eve": -7, "ann": -1, "bob": -12}), {"ann": [], "bob": [], "eve": []})

    def test_by_the_words(self):
        for dice, town, standing in itertools.chain(small_cases(108), long_cases(3, 108)):
            coins = {hand: dice.randint(-3, 12) for hand in sorted(wealths(town, standing), reverse=True)}
            told = by_coins(town, standing, coins)
            self.assertEqual(list(told), sorted(coins))
            for hand, homes in told.items():
                wealth = wealths(town, standing)[hand]
                can = [name for name, worth in town[0] if worth <= wealth and wealth - worth == coins[hand]]
                self.assertEqual(homes, can)

    def test_they_are_granted(self):
        for dice, town, standing in poor_cases(60, 109):
            stands = dice.choice(sorted(lot(town, standing)))
            coins = {there[0]: there[1] for there in placed(town, standing, stands) if there}
            self.assertEqual(granted(town, standing, by_coins(town, standing, coins))[0], "granted")

    def test_what_is_handed_in_stays(self):
        coins = {"eve": 5, "ann": 0}
        by_coins(TOWN, STANDING, coins)
        self.assertEqual(list(coins.items()), [("eve", 5), ("ann", 0)])

    def test_what_was_told_is_the_askers_own(self):
        check_own(self, lambda: by_coins(TOWN, STANDING, {"eve": 2, "ann": 8}))

    def test_by_name(self):
        self.assertEqual(by_coins(coins={"eve": 5}, standing=STANDING, town=TOWN), {"eve": ["low", "low2"]})


class Refusals(unittest.TestCase):
    OF_WISHES = [granted, left] + [lambda *told, thing=thing: granted_wrong(*told, thing)
                                   for thing in (None, ("granted", STANDS), ("crowd", CROWD))]
    CALLS = [lambda *told, call=call, wishes=wishes: call(*told, wishes)
             for call in OF_WISHES for wishes in ({}, {"eve": ["low"]}, {None: [None]})]
    CALLS += [lambda *told, coins=coins: by_coins(*told, coins) for coins in ({}, {None: 0})]

    def test_what_is_no_town_or_standing_ahead_of_all(self):
        check_refused(self, self.CALLS)

    def test_keys_that_are_no_hands(self):
        for hand in filter(can_key, NO_HANDS):
            for call, homes in itertools.product(self.OF_WISHES, ([], ["low"], ["nobody"])):
                for wishes in ({hand: homes}, {"eve": ["low"], hand: homes}, {hand: homes, "eve": ["nobody"]}):
                    with self.assertRaises(NoHand) as caught:
                        call(TOWN, STANDING, wishes)
                    self.assertIs(caught.exception.name, hand)
            for coins in ({hand: 0}, {"eve": 0, hand: -1}):
                with self.assertRaises(NoHand) as caught:
                    by_coins(TOWN, STANDING, coins)
                self.assertIs(caught.exception.name, hand)

    def test_things_that_are_no_homes(self):
        for call, home in itertools.product(self.OF_WISHES, NO_HOMES):
            for wishes in ({"eve": [home]}, {"eve": ["low", "low", home, None]}, {"bob": [], "eve": [home], "cid": []},
                           {"eve": [home], "ann": ["nobody"]}):
                with self.assertRaises(NoHome) as caught:
                    call(TOWN, STANDING, wishes)
                self.assertIs(caught.exception.name, home)

    def test_all_of_the_dict_ahead_of_the_wishes(self):
        self.assertRaises(NoHome, granted, TOWN, STANDING, {"eve": [], "bob": ["nobody"]})
        self.assertRaises(NoHand, left, TOWN, STANDING, {"eve": [], "cid": []})


if __name__ == "__main__":
    unittest.main()
