"""What can come about: [25], [26], [7], and of them [1], [2] and [3]."""

import copy
import itertools
import random
import unittest

from samples import (CORNER, CORNERED, NO_STANDINGS, NO_TOWNS, ODD, STANDING, STANDS, TOWN, NoPaper, greatest_case,
                     lists_in, long_cases, longest, lot, poor_cases, random_cases, shuffled_in_rooms, with_thing)
from worthrooms.errors import NoHand, NoHome, NoStanding, NoStands, NoTown
from worthrooms.exchanges import gone
from worthrooms.rooms import room_of
from worthrooms.towns import stands_of, wealths
from worthrooms.walls import fence, fence_wrong
from worthrooms.ways import bring, bring_wrong, come, come_wrong

BEHIND = ("bob", "", "eve", "ann", "", "")
TURNED = ("bob", "eve", "", "ann", "", "")
NEVER = ("eve", "bob", "ann", "", "", "")


def all_hands_in_rooms(town, standing):
    return {hand: room_of(town, standing, hand) for hand in wealths(town, standing)}


class Ways(unittest.TestCase):
    def check_row(self, town, standing, told):
        """The row may be done and isn't too long; tell where they stand behind it."""
        word, row = told
        self.assertEqual(word, "row")
        self.assertIs(type(row), list)
        self.assertLessEqual(len(row), longest(town))
        return stands_of(town, gone(town, standing, row))

    def check_barred(self, town, standing, told, homes):
        """The paper is right and lacks the home of its hand, which the dict tells."""
        word, hand, paper = told
        self.assertEqual(word, "barred")
        self.assertIsNone(fence_wrong(town, standing, hand, paper))
        self.assertNotIn(homes[hand], paper[1])

    def check_come(self, town, standing, stands, can):
        told = come(town, standing, stands)
        if can:
            self.assertEqual(self.check_row(town, standing, told), stands)
        else:
            homes = {hand: name for (name, _), hand in zip(town[0], stands)}
            self.check_barred(town, standing, told, homes)
        self.assertIsNone(come_wrong(town, standing, stands, told))
        return told

    def check_bring(self, town, standing, hand, home, can):
        told = bring(town, standing, hand, home)
        if can:
            names = [name for name, _ in town[0]]
            self.assertEqual(self.check_row(town, standing, told)[names.index(home)], hand)
            # No road of the tree more often than there are unlike worths, as the class Way says.
            self.assertLessEqual(len(told[1]), (len(names) - 1) * len({worth for _, worth in town[0]}))
        else:
            self.check_barred(town, standing, told, {hand: home})
        self.assertIsNone(bring_wrong(town, standing, hand, home, told))
        return told


class Come(Ways):
    def test_of_the_sample(self):
        for stands in [STANDS, TURNED, ("eve", "", "bob", "ann", "", ""), ("", "eve", "bob", "ann", "", "")]:
            self.check_come(TOWN, STANDING, stands, True)
        never = [BEHIND, NEVER, ("eve", "bob", "", "", "", "ann"), ("eve", "bob", "", "", "ann", "")]
        for stands in never + [("ann", "bob", "", "eve", "", ""), ("eve", "", "", "ann", "bob", "")]:
            self.check_come(TOWN, STANDING, stands, False)

    def test_where_they_stand(self):
        self.assertEqual(come(TOWN, STANDING, STANDS), ("row", []))
        self.assertEqual(come(((("a", 0),), ()), (("x", 0),), ("x",)), ("row", []))
        self.assertEqual(come(TOWN, ((),) * 6, ("",) * 6), ("row", []))

    def test_a_paper_of_who_is_out_of_its_room(self):
        self.assertEqual(come(TOWN, STANDING, NEVER), ("barred", "ann", ([["low2"]], ["low2"])))

    def test_what_a_hand_cannot_afford_is_barred(self):
        town = ((("a", 0), ("b", 5)), (("a", "b"),))
        told = self.check_come(town, (("x", 4), ()), ("", "x"), False)
        self.assertEqual(told[1], "x")
        self.check_come(town, (("x", 5), ()), ("", "x"), True)

    def test_two_of_the_poor_change_places_alone(self):
        town = ((("a", 0), ("b", 3), ("c", 0), ("d", 3), ("e", 0)), (("a", "b"), ("b", "c"), ("c", "d"), ("d", "e")))
        standing = (("x", 3), ("y", 0), ("z", 3), ("w", 0), ("v", 3))
        self.check_come(town, standing, ("v", "y", "z", "w", "x"), True)
        self.check_come(town, standing, ("v", "w", "x", "y", "z"), True)

    def test_by_all_exchanges_on_small_towns(self):
        seen = {True: 0, False: 0}
        for dice, town, standing in itertools.chain(random_cases(60, 25), poor_cases(300, 25)):
            all_stands = lot(town, standing)
            others = sorted(set(itertools.permutations(stands_of(town, standing))))
            for stands in dice.sample(others, min(20, len(others))) + sorted(all_stands)[:40]:
                self.check_come(town, standing, stands, stands in all_stands)
                seen[stands in all_stands] += 1
        self.assertGreater(min(seen.values()), 1000)

    def test_in_long_lines(self):
        rows = 0
        for dice, town, standing in itertools.chain(long_cases(30, 26), long_cases(30, 27, bare=True)):
            room = all_hands_in_rooms(town, standing)
            for _ in range(3):
                told = self.check_come(town, standing, shuffled_in_rooms(dice, town, room), True)
                rows += len(told[1])
        self.assertGreater(rows, 10000)

    def test_turned_lines(self):
        for _, town, standing in long_cases(30, 28, bare=True):
            room = all_hands_in_rooms(town, standing)
            names = [name for name, _ in town[0]]
            stands = [""] * len(names)
            for hand in sorted(reversed(room), key=lambda hand: len(room[hand])):
                stands[max(names.index(name) for name in room[hand] if not stands[names.index(name)])] = hand
            self.check_come(town, standing, tuple(stands), True)

    def test_in_the_greatest_town(self):
        town, standing = greatest_case()
        stands = stands_of(town, standing)
        self.check_come(town, standing, stands[::-1], False)
        room = all_hands_in_rooms(town, standing)
        self.assertGreater(sum(len(homes) == 40 for homes in room.values()), 1)
        dice = random.Random(28)
        for _ in range(3):
            self.check_come(town, standing, shuffled_in_rooms(dice, town, room), True)

    def test_who_is_out_of_its_room_in_long_lines(self):
        barred = 0
        for _, town, standing in itertools.chain(long_cases(12, 29), long_cases(12, 29, bare=True)):
            room = all_hands_in_rooms(town, standing)
            stands = stands_of(town, standing)
            names = [name for name, _ in town[0]]
            for one, other in zip(range(len(names)), range(3, len(names))):
                turned = with_thing(with_thing(stands, one, stands[other]), other, stands[one])
                can = all(not turned[k] or names[k] in room[turned[k]] for k in (one, other))
                self.check_come(town, standing, turned, can)
                barred += not can
        self.assertGreater(barred, 100)

    def test_what_is_none_of_its_stands(self):
        ill = ODD + [list(STANDS), STANDS[:5], (*STANDS, ""), STANDING, ("",) * 6]
        ill += [("eve", "bob", "cid", "ann", "", ""), ("eve", "bob", "eve", "ann", "", "")]
        for stands in ill:
            self.assertRaises(NoStands, come, TOWN, STANDING, stands)
            self.assertRaises(NoStands, come_wrong, TOWN, STANDING, stands, ("row", []))

    def test_what_was_told_is_the_askers_own(self):
        for stands in (TURNED, NEVER):
            told = come(TOWN, STANDING, stands)
            ahead = copy.deepcopy(told)
            lists = lists_in(told)
            self.assertEqual(len({id(found) for found in lists}), len(lists))
            for found in lists:
                found.clear()
            self.assertEqual(come(TOWN, STANDING, stands), ahead)

    def test_by_name(self):
        self.assertEqual(come(stands=STANDS, standing=STANDING, town=TOWN), ("row", []))


class Bring(Ways):
    def test_of_the_sample(self):
        for hand, homes in {"eve": ["low", "mid"], "bob": ["low", "mid", "high"], "ann": ["low2"]}.items():
            for home, _ in TOWN[0]:
                self.check_bring(TOWN, STANDING, hand, home, home in homes)

    def test_a_row_by_more_than_itself(self):
        town = ((("a", 0), ("b", 2), ("c", 0), ("d", 0)), (("a", "b"), ("b", "c"), ("c", "d")))
        standing = (("x", 2), ("y", 0), ("z", 0), ("w", 2))
        self.check_bring(town, standing, "x", "d", True)
        self.check_bring(town, standing, "z", "a", False)
        self.check_bring(town, with_thing(standing, 3, ()), "x", "d", True)
        self.check_bring(town, with_thing(standing, 3, ("w", 1)), "x", "d", False)

    def test_to_its_own_home(self):
        self.assertEqual(bring(TOWN, STANDING, "bob", "mid"), ("row", []))
        self.assertEqual(bring(((("a", 0),), ()), (("x", 0),), "x", "a"), ("row", []))

    def test_barred_by_its_fence(self):
        self.assertEqual(bring(CORNER, CORNERED, "rich", "c1"), ("barred", "rich", ([["c1", "c2"]], ["west"])))
        self.assertEqual(bring(CORNER, CORNERED, "pip", "east")[2][1], ["c1", "c2"])

    def test_by_all_exchanges_on_small_towns(self):
        seen = {True: 0, False: 0}
        for _, town, standing in itertools.chain(random_cases(60, 30), poor_cases(300, 30)):
            all_stands = lot(town, standing)
            for hand in wealths(town, standing):
                for place, (home, _) in enumerate(town[0]):
                    can = any(stands[place] == hand for stands in all_stands)
                    self.check_bring(town, standing, hand, home, can)
                    seen[can] += 1
        self.assertGreater(min(seen.values()), 1000)

    def test_in_long_lines(self):
        seen = {True: 0, False: 0}
        for dice, town, standing in itertools.chain(long_cases(18, 31), long_cases(18, 32, bare=True)):
            room = all_hands_in_rooms(town, standing)
            for hand in room:
                for home in dice.sample([name for name, _ in town[0]], 4):
                    self.check_bring(town, standing, hand, home, home in room[hand])
                    seen[home in room[hand]] += 1
        self.assertGreater(min(seen.values()), 1000)

    def test_what_was_told_is_the_askers_own(self):
        for home in ("c2", "west"):
            told = bring(CORNER, CORNERED, "pip", home)
            ahead = copy.deepcopy(told)
            lists = lists_in(told)
            self.assertEqual(len({id(found) for found in lists}), len(lists))
            for found in lists:
                found.clear()
            self.assertEqual(bring(CORNER, CORNERED, "pip", home), ahead)

    def test_by_name(self):
        self.assertEqual(bring(home="mid", hand="bob", standing=STANDING, town=TOWN), ("row", []))


class ComeWrong(Ways):
    def check(self, stands, thing, fault):
        self.assertEqual(come_wrong(TOWN, STANDING, stands, thing), fault, thing)

    def test_rows(self):
        self.check(STANDS, ("row", []), None)
        self.check(TURNED, ("row", [("low", "mid")]), None)
        self.check(TURNED, ("row", [("mid", "low")] * 5), None)
        self.check(STANDS, ("row", [("isle", "isle2"), ("isle2", "isle"), ("low", "mid"), ("mid", "low")]), None)

    def test_rows_of_any_length(self):
        row = [("low", "mid")] * (longest(TOWN) * 4 + 1)
        self.check(TURNED, ("row", row), None)
        self.check(STANDS, ("row", row), ("end",))
        self.check(STANDS, ("row", row + row), None)
        self.check(STANDS, ("row", row + [("high", "low2")] + row), ("row", len(row)))

    def test_no_paper(self):
        for stands in (STANDS, TURNED, NEVER):
            for thing in NoPaper.THINGS:
                self.check(stands, thing, ("paper",))

    def test_no_paper_anywhere_in_the_row(self):
        for ahead in ([("low2", "high")], [("low", "low")], [("low", "mid"), ("mid", "high")]):
            for pair in NoPaper.PAIRS:
                self.check(STANDS, ("row", ahead + [pair]), ("paper",))

    def test_what_cannot_be_done(self):
        self.check(STANDS, ("row", [("low2", "high")]), ("row", 0))
        self.check(STANDS, ("row", [("low", "mid"), ("mid", "high"), ("low2", "high")]), ("row", 1))
        self.check(STANDS, ("row", [("low", "mid"), ("mid", "low"), ("mid", "high"), ("high", "low2")]), ("row", 3))
        self.check(TURNED, ("row", [("low", "mid"), ("low2", "high")]), ("row", 1))

    def test_names_that_are_the_same_or_not_joined(self):
        for pair in [("low", "low"), ("low", "high"), ("high", "low"), ("low", "isle"), ("isle", "isle")]:
            self.check(STANDS, ("row", [pair]), ("row", 0))
            self.check(STANDS, ("row", [("isle", "isle2"), ("low", "mid"), pair, ("low2", "high")]), ("row", 2))

    def test_the_end(self):
        for stands in (TURNED, NEVER, BEHIND, ("eve", "", "bob", "ann", "", "")):
            self.check(stands, ("row", []), ("end",))
            self.check(stands, ("row", [("low", "mid"), ("mid", "low")]), ("end",))
        self.check(STANDS, ("row", [("low", "mid")]), ("end",))

    def test_barred(self):
        paper = ([["low2"]], ["low2"])
        self.check(NEVER, ("barred", "ann", paper), None)
        self.check(NEVER, ("barred", "ann", ([], ["low2"])), None)
        self.check(BEHIND, ("barred", "eve", ([["low2"]], ["mid", "low"])), None)
        self.check(BEHIND, ("barred", "eve", ([["low2"]], ["mid", "low", "isle2", "isle"])), None)

    def test_what_fence_wrong_tells(self):
        self.check(NEVER, ("barred", "ann", ([], [])), ("home",))
        self.check(NEVER, ("barred", "ann", ([["mid"]], ["low"])), ("wall", 0, "mid", "low"))
        self.check(NEVER, ("barred", "ann", ([], ["low"])), ("home",))
        self.check(NEVER, ("barred", "bob", ([], ["mid"])), ("fence", "mid", "low"))
        self.check(STANDS, ("barred", "bob", ([], ["mid", "low"])), ("fence", "mid", "high"))

    def test_there(self):
        self.check(STANDS, ("barred", "ann", ([], ["low2"])), ("there",))
        self.check(NEVER, ("barred", "eve", ([], ["low", "mid"])), ("there",))
        self.check(NEVER, ("barred", "bob", ([["low2"]], ["low", "mid", "high"])), ("there",))

    def test_by_the_words_on_small_towns(self):
        for dice, town, standing in poor_cases(300, 33):
            names = [name for name, _ in town[0]]
            stands = dice.choice(sorted(lot(town, standing)))
            _, row = come(town, standing, stands)
            row = row + [(dice.choice(names), dice.choice(names)) for _ in range(dice.randint(0, 2))]
            here, fault = stands_of(town, standing), None
            for k in range(len(row)):
                try:
                    here = stands_of(town, gone(town, standing, row[:k + 1]))
                except ValueError:
                    fault = ("row", k)
                    break
            if fault is None and here != stands:
                fault = ("end",)
            self.assertEqual(come_wrong(town, standing, stands, ("row", row)), fault)

    def test_what_is_handed_in_stays(self):
        things = [("row", [("low", "mid"), ("mid", "high"), ["low"]]), ("row", [("low", "mid")])]
        for thing in things + [("barred", "ann", ([["low2"]], ["low2"]))]:
            ahead = copy.deepcopy(thing)
            come_wrong(TOWN, STANDING, NEVER, thing)
            bring_wrong(TOWN, STANDING, "ann", "high", thing)
            self.assertEqual(thing, ahead)

    def test_by_name(self):
        told = come_wrong(thing=("row", []), stands=STANDS, standing=STANDING, town=TOWN)
        self.assertIsNone(told)


class BringWrong(Ways):
    def check(self, hand, home, thing, fault):
        self.assertEqual(bring_wrong(TOWN, STANDING, hand, home, thing), fault, thing)

    def test_rows(self):
        self.check("bob", "mid", ("row", []), None)
        self.check("bob", "low", ("row", [("low", "mid")]), None)
        self.check("eve", "mid", ("row", [("low", "mid")]), None)
        self.check("ann", "low2", ("row", [("low", "mid"), ("isle", "isle2")]), None)
        self.check("bob", "mid", ("row", [("low", "mid")] * (longest(TOWN) * 4)), None)

    def test_no_paper(self):
        for home in ("low2", "high"):
            for thing in NoPaper.THINGS:
                self.check("ann", home, thing, ("paper",))

    def test_no_paper_of_another_hand(self):
        for hand, other in itertools.permutations(("ann", "bob", "eve"), 2):
            for home in ("low", "high", "isle"):
                paper = fence(TOWN, STANDING, other)
                self.check(hand, home, ("barred", other, paper), ("paper",))
                self.check(hand, home, ("barred", other, ([], [])), ("paper",))

    def test_what_cannot_be_done(self):
        self.check("eve", "mid", ("row", [("low2", "high")]), ("row", 0))
        self.check("eve", "mid", ("row", [("low", "mid"), ("mid", "high")]), ("row", 1))
        self.check("eve", "mid", ("row", [("low", "mid"), ("low", "low")]), ("row", 1))
        self.check("eve", "mid", ("row", [("isle", "low"), ("low", "mid")]), ("row", 0))

    def test_the_end(self):
        self.check("eve", "mid", ("row", []), ("end",))
        self.check("eve", "low", ("row", [("low", "mid")]), ("end",))
        self.check("bob", "mid", ("row", [("low", "mid")]), ("end",))
        self.check("ann", "high", ("row", []), ("end",))
        self.check("ann", "isle", ("row", []), ("end",))

    def test_barred(self):
        self.check("ann", "high", ("barred", "ann", ([], ["low2"])), None)
        self.check("eve", "high", ("barred", "eve", ([], ["low", "mid"])), None)
        self.check("bob", "isle", ("barred", "bob", ([["low2"]], ["high", "low", "mid"])), None)

    def test_what_fence_wrong_tells(self):
        self.check("ann", "high", ("barred", "ann", ([], [])), ("home",))
        self.check("ann", "high", ("barred", "ann", ([["low2"], ["mid"]], ["low"])), ("wall", 1, "mid", "low"))
        self.check("bob", "isle", ("barred", "bob", ([], ["high", "low", "mid"])), ("fence", "high", "low2"))
        self.check("bob", "mid", ("barred", "bob", ([], ["mid"])), ("fence", "mid", "low"))

    def test_there(self):
        self.check("ann", "low2", ("barred", "ann", ([], ["low2"])), ("there",))
        self.check("eve", "mid", ("barred", "eve", ([], ["low", "mid"])), ("there",))
        self.check("eve", "isle", ("barred", "eve", ([], ["low", "mid", "isle", "isle2"])), ("there",))

    def test_by_name(self):
        told = bring_wrong(thing=("row", []), home="mid", hand="bob", standing=STANDING, town=TOWN)
        self.assertIsNone(told)


class Refusals(unittest.TestCase):
    OF_STANDS = [lambda town, standing, thing=thing: come(town, standing, thing) for thing in (STANDS, None)]
    OF_STANDS += [lambda town, standing, thing=thing: come_wrong(town, standing, thing, None) for thing in (STANDS, None)]
    OF_HOME = [bring]
    OF_HOME += [lambda *told, thing=thing: bring_wrong(*told, thing) for thing in (None, ("row", []))]
    CALLS = OF_STANDS + [lambda town, standing, call=call, rest=rest: call(town, standing, *rest)
                         for call in OF_HOME for rest in itertools.product(("eve", None), ("mid", None))]

    def test_what_is_no_town_ahead_of_all(self):
        for call, (town, wrong), standing in itertools.product(self.CALLS, NO_TOWNS, (STANDING, None)):
            with self.assertRaises(NoTown) as caught:
                call(town, standing)
            self.assertEqual(caught.exception.wrong, wrong)

    def test_what_is_no_standing_ahead_of_the_rest(self):
        for call, (standing, wrong) in itertools.product(self.CALLS, NO_STANDINGS):
            with self.assertRaises(NoStanding) as caught:
                call(TOWN, standing)
            self.assertEqual(caught.exception.wrong, wrong)

    def test_what_is_no_hand_ahead_of_the_home(self):
        ill = [thing for thing in ODD if thing != "eve"] + ["mid", "Eve", ("eve", 5), ["eve"]]
        for call, hand, home in itertools.product(self.OF_HOME, ill, ("mid", "nobody", None)):
            with self.assertRaises(NoHand) as caught:
                call(TOWN, STANDING, hand, home)
            self.assertIs(caught.exception.name, hand)

    def test_what_is_no_home(self):
        ill = [thing for thing in ODD if thing != "low"] + ["eve", "Mid", ("mid", 5), ["mid"]]
        for call, home in itertools.product(self.OF_HOME, ill):
            with self.assertRaises(NoHome) as caught:
                call(TOWN, STANDING, "eve", home)
            self.assertIs(caught.exception.name, home)


if __name__ == "__main__":
    unittest.main()
