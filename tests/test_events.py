"""One event: [50], [51], [52], [53], [7], and of them [1], [2] and [3]."""

import copy
import itertools
import unittest

from samples import (NO_NAMES, NO_WORTHS, ODD, STANDING, STANDS, TOWN, NoPaper, all_placings, changed_paper, check_own,
                     check_refused, greatest_case, hands_of, long_cases, longest, lot, naive_behind, naive_strike,
                     named, poor_cases, random_cases, shuffled_in_rooms, some_event, wealth_of, with_thing,
                     with_wealths)
from worthrooms.errors import NoEvent, NoRoad, NoStands, Short, Taken
from worthrooms.events import event_wrong, struck, through, through_wrong
from worthrooms.exchanges import gone
from worthrooms.rooms import in_lot, room_of
from worthrooms.towns import placed, stands_of, wealths
from worthrooms.walls import fence, fence_wrong

WORTHS = ("worths", (0, 5, 12, 0, 3, 3))
EVENTS = [
    WORTHS, ("worths", (5, 12, 99, 11, 10 ** 9, 0)), ("gift", "eve", "bob", 1), ("gift", "ann", "eve", 11),
    ("fee", "bob", 7), ("grant", "ann", 1), ("road", "low", "high"), ("road", "isle", "low"), ("bar", "low", "mid"),
    ("bar", "mid", "high"), ("goes", "eve"), ("goes", "ann"), ("comes", "zoe", "high", 1), ("comes", "abe", "isle", 9),
    ("comes", "low", "isle2", 3),
]


def whole(thing, least):
    return type(thing) is int and thing >= least


def event_fault(town, standing, thing):
    """What [50] says of anything, told once more in other words."""
    names = [name for name, _ in town[0]]
    hands = [there[0] for there in standing if there]
    joined = [set(road) for road in town[1]]
    match thing:
        case _ if type(thing) is not tuple:
            return ("event",)
        case ("worths", worths) if type(worths) is tuple and len(worths) == len(names):
            return None if all(whole(worth, 0) for worth in worths) else ("event",)
        case ("gift", one, other, c) if named(one) and named(other) and whole(c, 1):
            return ("hand", 1) if one not in hands else ("hand", 2) if other not in hands or one == other else None
        case ("fee" | "grant", hand, c) if named(hand) and whole(c, 1):
            return None if hand in hands else ("hand", 1)
        case ("goes", hand) if named(hand):
            return None if hand in hands else ("hand", 1)
        case ("comes", hand, home, c) if named(hand) and named(home) and whole(c, 1):
            return ("hand", 1) if hand in hands else None if home in names else ("home", 2)
        case ("road" | "bar", one, other) if named(one) and named(other):
            if one not in names or other not in names:
                return ("home", 1) if one not in names else ("home", 2)
            wanted = thing[0] == "bar"
            return None if one != other and ({one, other} in joined) == wanted else ("road",)
    return ("event",)


class EventWrong(unittest.TestCase):
    def check(self, thing, fault):
        self.assertEqual(event_wrong(TOWN, STANDING, thing), fault, repr(thing))
        self.assertEqual(event_fault(TOWN, STANDING, thing), fault, repr(thing))

    def test_events(self):
        for event in EVENTS:
            self.check(event, None)

    def test_none_of_the_forms(self):
        ill = ODD + [("gifts", "eve", "bob", 1), ("Fee", "eve", 1), ("", "eve"), (None, "eve"), ([], "eve"), ({}, 1)]
        ill += [("worths",), ("gift",), ("fee",), ("goes",), ("road",), ("hand", 1), ("event",), ("worth", WORTHS[1])]
        ill += [list(event) for event in EVENTS] + [event[:-1] for event in EVENTS] + [(*event, 1) for event in EVENTS]
        ill += [(*event, ()) for event in EVENTS] + [(event,) for event in EVENTS] + [event[1:] for event in EVENTS]
        for thing in ill:
            self.check(thing, ("event",))

    def test_worths_of_other_forms(self):
        ill = [thing for thing in ODD] + [WORTHS[1][:5], (*WORTHS[1], 0), list(WORTHS[1]), TOWN[0], (WORTHS[1],)]
        ill += [with_thing(WORTHS[1], k, thing) for k in range(6) for thing in NO_WORTHS]
        for thing in ill:
            self.check(("worths", thing), ("event",))

    def test_numbers_of_coins(self):
        ahead = [("gift", "eve", "bob"), ("fee", "bob"), ("grant", "ann"), ("comes", "zoe", "high")]
        for event in ahead:
            for c in NO_WORTHS + [0, -1, True, False]:
                self.check((*event, c), ("event",))
            for c in (1, 2, 10 ** 9, 10 ** 30):
                self.check((*event, c), None)

    def test_names_of_other_forms(self):
        places = [(("gift", "eve", "bob", 1), (1, 2)), (("fee", "eve", 1), (1,)), (("grant", "eve", 1), (1,)),
                  (("goes", "eve"), (1,)), (("comes", "zoe", "high", 1), (1, 2)), (("road", "low", "high"), (1, 2)),
                  (("bar", "low", "mid"), (1, 2))]
        for event, spots in places:
            for k, thing in itertools.product(spots, NO_NAMES + [thing for thing in ODD if not named(thing)]):
                self.check(with_thing(event, k, thing), ("event",))

    def test_hands(self):
        for event in [("fee", "cid", 1), ("grant", "low", 1), ("goes", "cid"), ("gift", "cid", "eve", 1),
                      ("gift", "cid", "dan", 1), ("gift", "cid", "cid", 1), ("comes", "eve", "high", 1),
                      ("comes", "bob", "nobody", 1), ("comes", "ann", "low2", 1)]:
            self.check(event, ("hand", 1))
        for event in [("gift", "eve", "cid", 1), ("gift", "eve", "eve", 1), ("gift", "bob", "low", 2)]:
            self.check(event, ("hand", 2))

    def test_homes(self):
        for event in [("road", "eve", "low"), ("road", "eve", "bob"), ("road", "x", "x"), ("bar", "x", "mid")]:
            self.check(event, ("home", 1))
        for event in [("road", "low", "x"), ("bar", "low", "bob"), ("comes", "zoe", "x", 1), ("comes", "zoe", "eve", 1)]:
            self.check(event, ("home", 2))

    def test_roads(self):
        for event in [("road", "low", "low"), ("road", "low", "mid"), ("road", "mid", "low"), ("road", "isle2", "isle"),
                      ("bar", "low", "low"), ("bar", "low", "high"), ("bar", "isle", "low")]:
            self.check(event, ("road",))
        for event in [("road", "low", "high"), ("road", "high", "low"), ("bar", "mid", "low"), ("bar", "high", "mid")]:
            self.check(event, None)

    def test_hands_and_homes_with_the_names_of_events(self):
        town = ((("gift", 0), ("road", 0), ("bar", 0), ("comes", 0)), (("gift", "bar"), ("road", "comes")))
        standing = (("fee", 1), ("gift", 1), ("goes", 1), ())
        for event in [("gift", "gift", "fee", 1), ("gift", "fee", "gift", 1), ("fee", "fee", 1), ("goes", "goes"),
                      ("comes", "comes", "comes", 1), ("road", "road", "bar"), ("bar", "bar", "gift")]:
            self.assertIsNone(event_wrong(town, standing, event))
            self.assertIsNone(event_fault(town, standing, event))

    def test_the_first_of_several_faults(self):
        self.check(("gift", "cid", "dan", 0), ("event",))
        self.check(("comes", "eve", "x", 1), ("hand", 1))
        self.check(("comes", "eve", "X", 1), ("event",))
        self.check(("road", "x", "y"), ("home", 1))

    def test_odd_things_at_two_places(self):
        for event in EVENTS:
            for one, other in itertools.combinations_with_replacement(range(len(event)), 2):
                for thing in ODD + ["fee", "grant", "road", "cid", "high", "isle", 0, 2]:
                    for rest in (None, "bob", "mid", 1):
                        changed = with_thing(with_thing(event, one, rest), other, thing)
                        told = event_wrong(TOWN, STANDING, changed)
                        self.assertEqual(told, event_fault(TOWN, STANDING, changed), repr(changed))

    def test_in_small_and_great_towns(self):
        for dice, town, standing in itertools.chain(poor_cases(200, 120), long_cases(6, 120)):
            hands = sorted(wealths(town, standing))
            event = some_event(dice, town, hands)
            self.assertIsNone(event_wrong(town, standing, event))
            for other, there in [(town, with_thing(standing, 0, ())), ((town[0], town[1][1:]), standing)]:
                self.assertEqual(event_wrong(other, there, event), event_fault(other, there, event))

    def test_what_is_handed_in_stays(self):
        for thing in [["goes", "eve"], ("worths", [0, 1]), ("fee", ["eve"], 1), {"goes": ["eve"]}]:
            ahead = copy.deepcopy(thing)
            event_wrong(TOWN, STANDING, thing)
            self.assertEqual(thing, ahead)

    def test_by_name(self):
        self.assertEqual(event_wrong(thing=("goes", "cid"), standing=STANDING, town=TOWN), ("hand", 1))


class Struck(unittest.TestCase):
    def check(self, event, town, standing):
        self.assertEqual(struck(TOWN, STANDING, event), (town, standing))

    def check_short(self, event, hand, lacks):
        with self.assertRaises(Short) as caught:
            struck(TOWN, STANDING, event)
        short = caught.exception
        self.assertEqual((short.hand, short.lacks, short.at), (hand, lacks, None))

    def test_worths(self):
        homes = (("low", 5), ("mid", 0), ("high", 99), ("low2", 11), ("isle", 0), ("isle2", 1))
        event = ("worths", (5, 0, 99, 11, 0, 1))
        self.check(event, (homes, TOWN[1]), (("eve", 0), ("bob", 12), (), ("ann", 0), (), ()))
        self.check(WORTHS, TOWN, STANDING)

    def test_worths_that_a_hand_cannot_pay(self):
        self.check_short(("worths", (6, 5, 12, 0, 3, 3)), "eve", 1)
        self.check_short(("worths", (6, 15, 12, 0, 3, 3)), "bob", 3)
        self.check_short(("worths", (99, 99, 99, 99, 99, 99)), "ann", 88)

    def test_coins(self):
        self.check(("gift", "bob", "eve", 7), TOWN, (("eve", 12), ("bob", 0), (), ("ann", 11), (), ()))
        self.check(("fee", "ann", 11), TOWN, with_thing(STANDING, 3, ("ann", 0)))
        self.check(("grant", "ann", 2), TOWN, with_thing(STANDING, 3, ("ann", 13)))

    def test_coins_that_a_hand_has_not(self):
        self.check_short(("gift", "bob", "eve", 8), "bob", 1)
        self.check_short(("gift", "eve", "bob", 8), "eve", 3)
        self.check_short(("fee", "ann", 99), "ann", 88)

    def test_roads(self):
        self.check(("road", "high", "low"), (TOWN[0], (*TOWN[1], ("high", "low"))), STANDING)
        self.check(("bar", "high", "mid"), (TOWN[0], (TOWN[1][0], *TOWN[1][2:])), STANDING)
        self.check(("bar", "mid", "high"), (TOWN[0], (TOWN[1][0], *TOWN[1][2:])), STANDING)
        self.check(("bar", "low", "mid"), (TOWN[0], TOWN[1][1:]), STANDING)

    def test_who_goes_and_comes(self):
        self.check(("goes", "bob"), TOWN, with_thing(STANDING, 1, ()))
        self.check(("comes", "zoe", "high", 4), TOWN, with_thing(STANDING, 2, ("zoe", 4)))
        self.check(("comes", "isle", "isle", 1), TOWN, with_thing(STANDING, 4, ("isle", 1)))

    def test_taken(self):
        for home in ("low", "mid", "low2"):
            with self.assertRaises(Taken) as caught:
                struck(TOWN, STANDING, ("comes", "zoe", home, 4))
            self.assertIs(caught.exception.name, home)

    def test_no_event(self):
        ill = [thing for thing in ODD] + [("fee", "cid", 1), ("fee", "eve", 0), ("road", "low", "mid"), ("bar", "low", "x")]
        for thing in ill:
            with self.assertRaises(NoEvent) as caught:
                struck(TOWN, STANDING, thing)
            self.assertEqual(caught.exception.wrong, event_fault(TOWN, STANDING, thing))

    def test_by_the_words_on_small_towns(self):
        seen = {}
        for dice, town, standing in itertools.chain(random_cases(200, 121), poor_cases(400, 121)):
            wealth = wealths(town, standing)
            stands = stands_of(town, standing)
            for _ in range(3):
                event = some_event(dice, town, wealth)
                behind, later = naive_behind(town, wealth, event)
                there = naive_strike(town, stands, wealth, event)
                try:
                    told = struck(town, standing, event)
                    self.assertEqual(told, (behind, with_wealths(behind, there, later)))
                    fault = None
                except Taken as taken:
                    self.assertEqual((event[0], event[2]), ("comes", taken.name))
                    fault = "taken"
                except Short as short:
                    owing = with_wealths(behind, stands, later)
                    owes = sorted((what[0], -what[1]) for what in owing if what and what[1] < 0)
                    self.assertEqual((short.hand, short.lacks), owes[0])
                    fault = "short"
                self.assertEqual(fault is None, there is not None)
                seen[event[0], fault] = seen.get((event[0], fault), 0) + 1
        for word in ("gift", "fee", "worths"):
            self.assertGreater(min(seen[word, None], seen[word, "short"]), 20)
        self.assertGreater(min(seen["comes", None], seen["comes", "taken"]), 20)

    def test_in_great_towns(self):
        for dice, town, standing in long_cases(12, 122):
            wealth = wealths(town, standing)
            event = some_event(dice, town, wealth, ("grant", "road", "bar", "goes"))
            behind, later = naive_behind(town, wealth, event)
            there = naive_strike(town, stands_of(town, standing), wealth, event)
            self.assertEqual(struck(town, standing, event), (behind, with_wealths(behind, there, later)))

    def test_by_name(self):
        told = struck(event=("goes", "bob"), standing=STANDING, town=TOWN)
        self.assertEqual(told, (TOWN, with_thing(STANDING, 1, ())))


# A pair of dear homes with a cheap one each: who is rich may cross, who is poor may not.
PAIRS = ((("a", 0), ("b", 3), ("c", 3), ("d", 0)), (("a", "b"), ("b", "c"), ("c", "d")))
PAIRED = (("x", 3), ("y", 3), ("z", 0), ())


class Through(unittest.TestCase):
    def check(self, town, standing, event, stands, can=None):
        """What through tells is right; where it is known whether it can be, it tells that."""
        told = through(town, standing, event, stands)
        if can is not None:
            self.assertEqual(told[0], "through" if can else "crowd")
        self.assertEqual(len(told), 4)
        if told[0] == "through":
            self.check_way(town, standing, event, stands, told)
        else:
            self.check_crowd(town, standing, event, stands, told)
        self.assertIsNone(through_wrong(town, standing, event, stands, told))
        return told

    def check_way(self, town, standing, event, stands, told):
        _, row, midst, onward = told
        self.assertEqual([type(row), type(midst), type(onward)], [list, tuple, list])
        here = gone(town, standing, row)
        self.assertEqual(stands_of(town, here), midst)
        behind, there = struck(town, here, event)
        self.assertEqual(stands_of(behind, gone(behind, there, onward)), stands)
        self.assertLessEqual(len(row), longest(town))
        self.assertLessEqual(len(onward), longest(behind))

    def check_crowd(self, town, standing, event, stands, told):
        _, hands, ahead, then = told
        behind, later = naive_behind(town, wealths(town, standing), event)
        wished = with_wealths(behind, stands, later)
        self.assertIsNone(crowd_fault(town, standing, event, behind, wished, told))
        self.assertIs(type(hands), list)
        self.assertEqual([hand for hand, _ in ahead[1]], [hand for hand in hands if hand in hands_of(stands_of(town, standing))])
        self.assertEqual([hand for hand, _ in then[1]], [hand for hand in hands if hand in later])

    def test_there_and_here(self):
        for event in (WORTHS, ("road", "low", "high"), ("grant", "ann", 1), ("fee", "eve", 1)):
            self.check(TOWN, STANDING, event, STANDS, True)
        self.assertEqual(through(TOWN, STANDING, WORTHS, STANDS)[0], "through")

    def test_a_fee_strikes_where_it_can_be_paid(self):
        # Bob has all its coins in the low home alone.
        told = self.check(TOWN, STANDING, ("fee", "bob", 12), ("bob", "eve", "", "ann", "", ""), True)
        self.assertEqual(told[2], ("bob", "eve", "", "ann", "", ""))
        with self.assertRaises(Short) as caught:
            through(TOWN, STANDING, ("fee", "bob", 12), STANDS)
        self.assertEqual((caught.exception.hand, caught.exception.lacks), ("bob", 5))

    def test_a_grant_opens_a_room(self):
        event = ("grant", "ann", 1)
        self.check(TOWN, STANDING, event, ("eve", "bob", "ann", "", "", ""), True)
        self.check(TOWN, STANDING, event, ("bob", "eve", "ann", "", "", ""), True)
        # Low2 is left by ann then, but eve can't afford the dear home ahead of it.
        self.check(TOWN, STANDING, event, ("", "bob", "ann", "eve", "", ""), False)
        self.check(TOWN, STANDING, event, ("eve", "bob", "", "", "", "ann"), False)
        self.assertRaises(Short, through, TOWN, STANDING, WORTHS, ("eve", "bob", "ann", "", "", ""))

    def test_who_goes(self):
        self.check(TOWN, STANDING, ("goes", "bob"), ("", "eve", "", "ann", "", ""), True)
        self.check(TOWN, STANDING, ("goes", "eve"), ("", "", "bob", "ann", "", ""), True)
        self.check(TOWN, STANDING, ("goes", "ann"), ("eve", "bob", "", "", "", ""), True)
        # With ann gone, low2 is empty and so opens to those who can come there.
        self.check(TOWN, STANDING, ("goes", "ann"), ("eve", "", "", "bob", "", ""), True)
        self.check(TOWN, STANDING, ("goes", "ann"), ("", "bob", "", "", "eve", ""), False)

    def test_who_comes(self):
        for home, can in [("low", True), ("mid", True), ("high", True), ("low2", False), ("isle", False)]:
            stands = ["bob", "eve", "zoe", "ann", "", ""]
            self.check(TOWN, STANDING, ("comes", "zoe", home, 20), tuple(stands), can)
        told = self.check(TOWN, STANDING, ("comes", "zoe", "isle", 20), ("bob", "eve", "zoe", "ann", "", ""), False)
        self.assertEqual(told[1], ["zoe"])
        self.assertEqual(told[2][1], [])

    def test_no_place_for_who_comes(self):
        town = ((("a", 0), ("b", 0)), (("a", "b"),))
        self.check(town, (("x", 0), ()), ("comes", "y", "a", 1), ("x", "y"), True)
        self.assertRaises(NoStands, through, town, (("x", 0), ("z", 0)), ("comes", "y", "a", 1), ("x", "y"))
        # One who must make way for it can't, as the other home is dear.
        town = ((("a", 0), ("b", 2)), (("a", "b"),))
        self.check(town, (("x", 2), ()), ("comes", "y", "a", 9), ("x", "y"), True)
        self.check(town, (("x", 1), ()), ("comes", "y", "a", 9), ("x", "y"), False)

    def test_worths_at_midnight(self):
        # All must be in the cheap homes when the dear ones become too dear.
        event = ("worths", (0, 9, 9, 0))
        self.assertRaises(Short, through, PAIRS, PAIRED, event, ("x", "y", "z", ""))
        town, standing = PAIRS, (("x", 3), ("y", 3), (), ())
        told = self.check(town, standing, event, ("x", "", "", "y"), True)
        self.assertEqual(told[2], ("x", "", "", "y"))
        self.check(town, standing, event, ("y", "", "", "x"), True)
        poor = (("x", 0), ("y", 0), (), ())
        self.check(town, poor, event, ("y", "", "", "x"), False)

    def test_refusals_in_their_order(self):
        for stands in (STANDS, None, ("eve", "bob", "ann", "", "", "")):
            for event in (None, ("fee", "cid", 1), ("road", "low", "mid")):
                for call in (through, lambda *told: through_wrong(*told, None)):
                    with self.assertRaises(NoEvent) as caught:
                        call(TOWN, STANDING, event, stands)
                    self.assertEqual(caught.exception.wrong, event_fault(TOWN, STANDING, event))
        ill = [thing for thing in ODD] + [list(STANDS), STANDS[:5], STANDING, ("",) * 6]
        cases = [(WORTHS, ill + [("eve", "bob", "zoe", "ann", "", "")]), (("goes", "eve"), ill + [STANDS])]
        cases += [(("comes", "zoe", "high", 1), ill + [STANDS, ("eve", "bob", "zoe", "", "", "")])]
        cases += [(("fee", "eve", 99), ill)]
        for event, things in cases:
            for stands, call in itertools.product(things, (through, lambda *told: through_wrong(*told, None))):
                self.assertRaises(NoStands, call, TOWN, STANDING, event, stands)

    def test_short_by_the_wealths_behind(self):
        for event, stands, hand, lacks in [
                (("fee", "eve", 9), STANDS, "eve", 4), (("fee", "eve", 9), ("", "eve", "bob", "ann", "", ""), "eve", 9),
                (("gift", "bob", "eve", 8), STANDS, "bob", 1), (("worths", (6, 20, 0, 20, 0, 0)), STANDS, "ann", 9),
                (WORTHS, ("eve", "bob", "ann", "", "", ""), "ann", 1), (("goes", "bob"), ("", "", "eve", "ann", "", ""), "eve", 7),
                (("comes", "zoe", "isle", 2), ("eve", "bob", "zoe", "ann", "", ""), "zoe", 7)]:
            for call in (through, lambda *told: through_wrong(*told, None)):
                with self.assertRaises(Short) as caught:
                    call(TOWN, STANDING, event, stands)
                short = caught.exception
                self.assertEqual((short.hand, short.lacks, short.at), (hand, lacks, None))

    def test_by_all_midsts_on_small_towns(self):
        seen = {}
        for dice, town, standing in itertools.chain(random_cases(50, 123), poor_cases(350, 123)):
            wealth = {hand: means for hand, means in wealth_of(town, standing).items() if hand}
            here = lot(town, standing)
            for _ in range(2):
                event = some_event(dice, town, wealth)
                behind, later = naive_behind(town, wealth, event)
                can = all_placings(behind, later)
                reached = set()
                for midst in here:
                    there = naive_strike(town, midst, wealth, event)
                    if there is not None and there not in reached:
                        reached |= lot(behind, with_wealths(behind, there, later))
                some = [stands for stands in can if stands in reached]
                other = [stands for stands in can if stands not in reached]
                for stands in dice.sample(some, min(3, len(some))) + dice.sample(other, min(3, len(other))):
                    self.check(town, standing, event, stands, stands in reached)
                    seen[event[0], stands in reached] = seen.get((event[0], stands in reached), 0) + 1
        self.assertEqual(len(seen), 16, seen)
        self.assertGreater(min(seen.values()), 10, seen)

    def test_in_great_towns(self):
        seen = {"through": 0, "crowd": 0}
        for dice, town, standing in itertools.chain(long_cases(12, 124), long_cases(6, 125, bare=True)):
            room = {hand: room_of(town, standing, hand) for hand in wealths(town, standing)}
            for words in (("grant", "road", "bar"), ("goes",), ("comes",), ("fee", "gift")):
                event = some_event(dice, town, wealths(town, standing), words)
                here = placed(town, standing, shuffled_in_rooms(dice, town, room))
                try:
                    behind, there = struck(town, here, event)
                except (Short, Taken):
                    continue
                then = {hand: room_of(behind, there, hand) for hand in wealths(behind, there)}
                self.check(town, standing, event, shuffled_in_rooms(dice, behind, then), True)
                turned = list(stands_of(behind, there))
                one, other = dice.sample(range(len(turned)), 2)
                turned[one], turned[other] = turned[other], turned[one]
                try:
                    seen[self.check(town, standing, event, tuple(turned))[0]] += 1
                except Short:
                    continue
        self.assertGreater(min(seen.values()), 5)

    def test_in_the_greatest_town(self):
        town, standing = greatest_case()
        event = ("grant", "p1", 30)
        stands = stands_of(town, standing)
        self.check(town, standing, event, stands, True)
        turned = with_thing(with_thing(stands, 39, "p1"), 1, "p39")
        self.check(town, standing, event, turned, True)
        self.assertRaises(Short, through, town, standing, ("grant", "p1", 1), turned)

    def test_what_was_told_is_the_askers_own(self):
        check_own(self, lambda: through(TOWN, STANDING, ("goes", "eve"), ("bob", "", "", "ann", "", "")))
        check_own(self, lambda: through(TOWN, STANDING, ("goes", "ann"), ("", "bob", "", "", "eve", "")))
        check_own(self, lambda: through(TOWN, STANDING, ("comes", "zoe", "isle", 20), ("bob", "eve", "zoe", "ann", "", "")))

    def test_by_name(self):
        told = through(stands=STANDS, event=WORTHS, standing=STANDING, town=TOWN)
        self.check_way(TOWN, STANDING, WORTHS, STANDS, told)


def crowd_fault(town, standing, event, behind, wished, thing):
    """What through_wrong should tell of a crowd that is right by form, by the words of 53."""
    _, hands, (walls, fences), (walls_then, fences_then) = thing
    for hand, fenced in fences:
        fault = fence_wrong(town, standing, hand, (walls, fenced))
        if fault is not None:
            return fault
    for hand, fenced in fences_then:
        fault = fence_wrong(behind, wished, hand, (walls_then, fenced))
        if fault is not None:
            return fault
    homes = set()
    for hand in hands:
        own = [set(fenced) for name, fenced in fences + fences_then if name == hand]
        if event[0] == "comes" and hand == event[1]:
            own.append({event[2]})
        homes |= set.intersection(*own)
    return None if len(homes) < len(hands) else ("many",)


# Ann goes; that eve comes to the isle is barred by what it may do ahead and behind.
GOES = ("goes", "ann")
ISLE = ("", "bob", "", "", "eve", "")
AHEAD = ([["low2"]], [("eve", ["low", "mid"])])
THEN = ([], [("eve", ["isle", "isle2"])])
# Zoe comes into the isle, but is wished elsewhere.
COMES = ("comes", "zoe", "isle", 20)
ELSEWHERE = ("bob", "eve", "zoe", "ann", "", "")
ALONE = ("crowd", ["zoe"], ([], []), ([["low2"]], [("zoe", ["low", "mid", "high"])]))


class ThroughWrong(unittest.TestCase):
    def check(self, event, stands, thing, fault):
        self.assertEqual(through_wrong(TOWN, STANDING, event, stands, thing), fault, thing)

    def test_ways(self):
        self.check(WORTHS, STANDS, ("through", [], STANDS, []), None)
        turned = ("bob", "eve", "", "ann", "", "")
        self.check(WORTHS, turned, ("through", [("low", "mid")], turned, []), None)
        self.check(WORTHS, turned, ("through", [], STANDS, [("mid", "low")]), None)
        self.check(WORTHS, STANDS, ("through", [("low", "mid")], turned, [("mid", "low")]), None)

    def test_rows_of_any_length(self):
        row = [("isle", "isle2")] * (2 * longest(TOWN)) + [("low", "mid")] * (2 * longest(TOWN))
        self.check(WORTHS, STANDS, ("through", row, STANDS, row), None)

    def test_a_row_that_cannot_be_done(self):
        for pair in [("low2", "high"), ("low", "low"), ("low", "high"), ("isle", "low")]:
            for ahead in ([], [("low", "mid")], [("isle", "isle2"), ("mid", "low")]):
                thing = ("through", [*ahead, pair, ("low", "low")], STANDS, [("low", "low")])
                self.check(WORTHS, STANDS, thing, ("row", len(ahead)))

    def test_the_midst(self):
        turned = ("bob", "eve", "", "ann", "", "")
        self.check(WORTHS, STANDS, ("through", [("low", "mid")], STANDS, []), ("midst",))
        self.check(WORTHS, STANDS, ("through", [], turned, [("low", "mid")]), ("midst",))
        for midst in [("",) * 6, ("x",) * 6, with_thing(STANDS, 4, "eve"), with_thing(STANDS, 0, "zoe"), ("Eve!",) * 6]:
            self.check(WORTHS, STANDS, ("through", [], midst, []), ("midst",))
        # What strikes there is looked at behind the midst.
        self.check(("fee", "bob", 12), turned, ("through", [], turned, []), ("midst",))

    def test_where_the_event_cannot_strike(self):
        turned = ("bob", "eve", "", "ann", "", "")
        self.check(("fee", "bob", 12), turned, ("through", [], STANDS, [("low", "mid")]), ("strike",))
        self.check(("fee", "bob", 12), turned, ("through", [("low", "mid")], turned, []), None)
        came = ("eve", "bob", "zoe", "ann", "", "")
        event = ("comes", "zoe", "high", 3)
        self.check(event, came, ("through", [("mid", "high")], ("eve", "", "bob", "ann", "", ""), []), ("strike",))
        self.check(event, came, ("through", [], STANDS, []), None)
        self.check(("worths", (6, 5, 12, 0, 3, 3)), turned, ("through", [], STANDS, [("low", "mid")]), ("strike",))
        self.check(("worths", (6, 5, 12, 0, 3, 3)), turned, ("through", [("low", "mid")], turned, []), None)

    def test_a_row_onward_that_cannot_be_done(self):
        self.check(WORTHS, STANDS, ("through", [], STANDS, [("low", "low")]), ("onward", 0))
        self.check(WORTHS, STANDS, ("through", [], STANDS, [("low", "mid"), ("high", "mid")]), ("onward", 1))
        self.check(("bar", "low", "mid"), STANDS, ("through", [], STANDS, [("low", "mid")]), ("onward", 0))
        self.check(("bar", "low", "mid"), STANDS, ("through", [("low", "mid"), ("mid", "low")], STANDS, []), None)
        self.check(("road", "low", "high"), STANDS, ("through", [], STANDS, [("low", "high")]), ("onward", 0))
        self.check(("road", "low2", "low"), STANDS, ("through", [], STANDS, [("low", "low2")] * 2), None)
        self.check(("road", "low2", "low"), STANDS, ("through", [("low", "low2")] * 2, STANDS, []), ("row", 0))
        # Eve has the coins for the dear home only behind the grant.
        came = ("", "bob", "eve", "ann", "", "")
        row = [("low", "mid"), ("mid", "high"), ("low", "mid")]
        self.check(("grant", "eve", 7), came, ("through", [], STANDS, row), None)
        self.check(("grant", "eve", 6), ("bob", "eve", "", "ann", "", ""), ("through", [], STANDS, row), ("onward", 1))

    def test_the_end(self):
        turned = ("bob", "eve", "", "ann", "", "")
        self.check(WORTHS, turned, ("through", [], STANDS, []), ("end",))
        self.check(WORTHS, STANDS, ("through", [], STANDS, [("low", "mid")]), ("end",))
        self.check(("goes", "eve"), ("", "", "bob", "ann", "", ""), ("through", [], STANDS, []), ("end",))
        self.check(("goes", "eve"), ("", "", "bob", "ann", "", ""), ("through", [], STANDS, [("mid", "high")]), None)

    def test_no_paper_of_a_way(self):
        ill = [thing for thing in ODD] + [("through",), ["through", [], STANDS, []], ("through", [], STANDS)]
        ill += [("through", [], STANDS, [], []), ("Through", [], STANDS, []), (None, [], STANDS, []), ([], [], STANDS, [])]
        ill += [("crowd", [], STANDS, []), ("row", []), ("through", STANDS, [], []), ("through", [], [], STANDS)]
        for row in NoPaper.ROWS + [[pair] for pair in NoPaper.PAIRS]:
            ill += [("through", row, STANDS, []), ("through", [], STANDS, row), ("through", [("low", "low")], STANDS, row)]
            if isinstance(row, list):
                ill += [("through", [("low", "mid"), *row], ("",) * 6, [])]
        ill += [("through", [], thing, []) for thing in ODD + [list(STANDS), STANDS[:5], (*STANDS, ""), STANDING]]
        ill += [("through", [], with_thing(STANDS, k, thing), []) for k in range(6) for thing in ODD
                if not isinstance(thing, str)]
        for thing in ill:
            self.check(WORTHS, STANDS, thing, ("paper",))

    def test_crowds(self):
        self.check(GOES, ISLE, ("crowd", ["eve"], AHEAD, THEN), None)
        self.check(COMES, ELSEWHERE, ALONE, None)
        # Where nobody of them stands there ahead, nobody looks whether the walls are right.
        for walls in ([["mid"]], [["low", "isle"], ["high"]]):
            self.check(COMES, ELSEWHERE, ("crowd", ["zoe"], (walls, []), ALONE[3]), None)
        told = through(TOWN, STANDING, GOES, ISLE)
        self.check(GOES, ISLE, told, None)

    def test_what_fence_wrong_tells_all_ahead_then_all_behind(self):
        hands = ["eve", "bob"]
        ahead = ([["low2"]], [("eve", ["low", "mid"]), ("bob", ["low", "mid", "high"])])
        then = ([], [("eve", ["isle", "isle2"]), ("bob", ["low", "mid", "high", "low2"])])
        self.check(GOES, ISLE, ("crowd", hands, ahead, then), ("many",))
        bad = ([], ahead[1])
        self.check(GOES, ISLE, ("crowd", hands, bad, then), ("fence", "high", "low2"))
        self.check(GOES, ISLE, ("crowd", hands, ([["mid"]], ahead[1]), then), ("wall", 0, "mid", "low"))
        bad_then = ([], [("eve", ["isle"]), then[1][1]])
        self.check(GOES, ISLE, ("crowd", hands, ahead, bad_then), ("fence", "isle", "isle2"))
        self.check(GOES, ISLE, ("crowd", hands, bad, bad_then), ("fence", "high", "low2"))
        self.check(GOES, ISLE, ("crowd", hands, ahead, ([], [("eve", []), then[1][1]])), ("home",))
        self.check(GOES, ISLE, ("crowd", hands, ahead, ([["mid"]], then[1])), ("wall", 0, "mid", "low"))
        # The walls and fences behind are right in the town behind, standing as wished.
        self.check(GOES, ISLE, ("crowd", ["eve"], AHEAD, ([], [("eve", ["low", "mid"])])), ("home",))
        self.check(GOES, ISLE, ("crowd", ["eve"], ([], [("eve", ["isle", "isle2"])]), THEN), ("home",))
        self.check(GOES, ISLE, ("crowd", ["bob"], ([["low2"]], [("bob", ["high", "low", "mid"])]),
                                ([["low2"]], [("bob", ["low", "mid", "high"])])), ("wall", 0, "low2", "high"))

    def test_the_paper_of_all_fences_ahead_of_what_is_wrong_with_the_first(self):
        for fenced in (["low2", "low2"], ["ann"], [["low2"]], ("low2",), None):
            crowd = ("crowd", ["eve", "bob"], ([], [("eve", []), ("bob", fenced)]), ([], [("eve", []), ("bob", [])]))
            self.check(GOES, ISLE, crowd, ("paper",))
            crowd = ("crowd", ["eve", "bob"], ([], [("eve", []), ("bob", [])]), ([], [("eve", []), ("bob", fenced)]))
            self.check(GOES, ISLE, crowd, ("paper",))
            self.check(GOES, ISLE, ("crowd", ["eve"], ([["mid"]], [("eve", [])]), ([], [("eve", fenced)])), ("paper",))

    def test_too_many_homes(self):
        self.check(GOES, ("eve", "bob", "", "", "", ""),
                   ("crowd", ["eve"], AHEAD, ([], [("eve", ["low", "mid"])])), ("many",))
        self.check(GOES, ("eve", "bob", "", "", "", ""), ("crowd", ["ann"], ([], [("ann", ["low2"])]), ([], [])), ("many",))
        came = ("eve", "bob", "zoe", "ann", "", "")
        crowd = ("crowd", ["zoe"], ([], []), ([["low2"]], [("zoe", ["low", "mid", "high"])]))
        self.check(("comes", "zoe", "low", 20), came, crowd, ("many",))
        crowd = ("crowd", ["zoe", "eve"], ([], [("eve", ["low", "mid"])]), ([["low2"]], [
            ("zoe", ["low", "mid", "high"]), ("eve", ["low", "mid"])]))
        self.check(("comes", "zoe", "low", 20), came, crowd, ("many",))
        self.check(("comes", "zoe", "isle", 20), came, crowd, ("many",))

    def test_a_crowd_of_who_comes_and_others(self):
        town = ((("a", 0), ("b", 2), ("c", 2)), (("a", "b"), ("b", "c")))
        standing = (("x", 1), ("y", 0), ())
        event = ("comes", "z", "a", 9)
        stands = ("x", "y", "z")
        told = through(town, standing, event, stands)
        self.assertEqual(told[0], "crowd")
        self.assertIn("z", told[1])
        self.assertIsNone(through_wrong(town, standing, event, stands, told))

    def test_no_paper_of_a_crowd(self):
        hands, ahead, then = ["eve"], AHEAD, THEN
        ill = [("crowd",), ("crowd", hands, ahead), ["crowd", hands, ahead, then], ("crowd", hands, ahead, then, None)]
        ill += [("Crowd", hands, ahead, then), (None, hands, ahead, then), ("through", hands, ahead, then)]
        ill += [("crowd", thing, ahead, then) for thing in ODD + [("eve",), ["eve", "eve"], ["cid"], ["eve", "cid"], [["eve"]]]]
        ill += [("crowd", ["eve", thing], ahead, then) for thing in ODD]
        ill += [("crowd", ["eve", "bob"], ahead, then), ("crowd", ["bob"], ahead, then), ("crowd", ["eve", "ann"], ahead, then)]
        for put in (lambda paper: ("crowd", hands, paper, then), lambda paper: ("crowd", hands, ahead, paper)):
            walls, fences = ([], [("eve", ["low", "mid"])])
            papers = [thing for thing in ODD] + [[walls, fences], (walls,), (walls, fences, []), (fences, walls)]
            papers += [(thing, fences) for thing in ODD if thing != []]
            papers += [(thing, fences) for thing in ([[]], [["low2", "low2"]], [["eve"]], [("low2",)], (["low2"],))]
            papers += [(walls, thing) for thing in ODD + [tuple(fences), dict(fences), fences + fences, fences[0]]]
            papers += [(walls, [thing]) for thing in ODD + [["eve", ["low"]], ("eve", ["low"], None), ("eve",)]]
            papers += [(walls, [("eve", thing)]) for thing in ODD if thing != []]
            papers += [(walls, [("eve", thing)]) for thing in (["low", "low"], ["eve"], [["low"]], ("low",))]
            papers += [(walls, [(hand, ["low", "mid"])]) for hand in ("bob", "ann", "cid", None, ["eve"])]
            papers += [(walls, [*fences, ("bob", ["low"])]), (walls, [("bob", ["low"]), *fences]), (walls, [])]
            ill += [put(paper) for paper in papers]
        for thing in ill:
            self.check(GOES, ISLE, thing, ("paper",))

    def test_fences_of_just_those_that_stand_there_then_in_their_order(self):
        both = [("eve", ["low", "mid"]), ("ann", ["low2"])]
        self.check(GOES, ISLE, ("crowd", ["eve", "ann"], ([], both), THEN), None)
        self.check(GOES, ISLE, ("crowd", ["ann", "eve"], ([], both[::-1]), THEN), None)
        self.check(GOES, ISLE, ("crowd", ["ann", "eve"], ([], both), THEN), ("paper",))
        self.check(GOES, ISLE, ("crowd", ["eve", "ann"], ([], both[:1]), THEN), ("paper",))
        self.check(GOES, ISLE, ("crowd", ["eve", "ann"], ([], both), ([], THEN[1] + [("ann", ["low2"])])), ("paper",))
        self.check(COMES, ELSEWHERE, ("crowd", ["zoe"], ([], [("zoe", ["isle"])]), ALONE[3]), ("paper",))
        self.check(COMES, ELSEWHERE, ("crowd", ["zoe"], ([], []), ([], [])), ("paper",))
        # Their form is looked at, though nobody looks whether they are right.
        for walls in ODD + [[[]], [["low", "low"]], [["zoe"]]]:
            if walls != []:
                self.check(COMES, ELSEWHERE, ("crowd", ["zoe"], (walls, []), ALONE[3]), ("paper",))

    def test_changed_crowds_on_small_towns(self):
        seen = {}
        for dice, town, standing in itertools.chain(random_cases(50, 126), poor_cases(300, 126)):
            wealth = wealths(town, standing)
            event = some_event(dice, town, wealth)
            behind, later = naive_behind(town, wealth, event)
            can = all_placings(behind, later)
            if not can or not later and not wealth:
                continue
            stands = dice.choice(can)
            wished = with_wealths(behind, stands, later)
            hands = sorted({**wealth, **later})
            for _ in range(3):
                some = dice.sample(hands, dice.randint(1, len(hands)))
                papers = []
                for there, here in ((town, standing), (behind, wished)):
                    own = [hand for hand in some if hand in wealths(there, here)]
                    walls = fence(there, here, own[0])[0] if own else []
                    fences = [(hand, room_of(there, here, hand)) for hand in own]
                    if own and dice.random() < 0.2:
                        walls, changed = changed_paper(dice, [name for name, _ in town[0]], (walls, fences[-1][1]))
                        fences[-1] = (own[-1], changed)
                    papers.append((walls, fences))
                thing = ("crowd", some, *papers)
                fault = crowd_fault(town, standing, event, behind, wished, thing)
                self.assertEqual(through_wrong(town, standing, event, stands, thing), fault, (town, standing, event, thing))
                seen[fault and fault[0]] = seen.get(fault and fault[0], 0) + 1
        self.assertEqual(set(seen), {None, "wall", "home", "fence", "many"})
        self.assertGreater(min(seen.values()), 5)

    def test_changed_ways_on_small_towns(self):
        seen = {}
        for dice, town, standing in poor_cases(500, 127):
            wealth = wealths(town, standing)
            event = some_event(dice, town, wealth)
            behind, later = naive_behind(town, wealth, event)
            can = all_placings(behind, later)
            told = [through(town, standing, event, stands) for stands in dice.sample(can, min(len(can), 4))]
            for stands, (word, *parts) in zip(can, told):
                if word != "through":
                    continue
                names = [name for name, _ in town[0]]
                row, midst, onward = copy.deepcopy(parts)
                for part in (row, onward):
                    if dice.random() < 0.3:
                        part.insert(dice.randint(0, len(part)), (dice.choice(names), dice.choice(names)))
                if dice.random() < 0.3:
                    midst = dice.choice(sorted(lot(town, standing)))
                if dice.random() < 0.3:
                    midst = stands_of(town, standing)
                    row = []
                thing = ("through", row, midst, onward)
                fault = way_fault(town, standing, event, stands, thing)
                self.assertEqual(through_wrong(town, standing, event, stands, thing), fault)
                seen[fault and fault[0]] = seen.get(fault and fault[0], 0) + 1
        self.assertEqual(set(seen), {None, "row", "midst", "strike", "onward", "end"})

    def test_what_is_handed_in_stays(self):
        for thing in [("through", [("low", "mid"), ("x", "y")], STANDS, [[]]), ("crowd", ["eve"], AHEAD, THEN),
                      ("through", [("low", "mid")], STANDS, [("low", "low")]), ("crowd", [["eve"]], AHEAD, [THEN])]:
            ahead = copy.deepcopy(thing)
            through_wrong(TOWN, STANDING, GOES, ISLE, thing)
            self.assertEqual(thing, ahead)

    def test_by_name(self):
        told = through_wrong(thing=("through", [], STANDS, []), stands=STANDS, event=WORTHS, standing=STANDING, town=TOWN)
        self.assertIsNone(told)


def way_fault(town, standing, event, stands, thing):
    """What through_wrong should tell of rows and a midst that are right by form, by the words of 53."""
    _, row, midst, onward = thing
    for k in range(len(row)):
        try:
            gone(town, standing, row[:k + 1])
        except (NoRoad, Short):
            return ("row", k)
    here = gone(town, standing, row)
    if stands_of(town, here) != midst:
        return ("midst",)
    try:
        behind, there = struck(town, here, event)
    except (Short, Taken):
        return ("strike",)
    for k in range(len(onward)):
        try:
            gone(behind, there, onward[:k + 1])
        except (NoRoad, Short):
            return ("onward", k)
    return None if stands_of(behind, gone(behind, there, onward)) == stands else ("end",)


class Refusals(unittest.TestCase):
    CALLS = [lambda *told, call=call, event=event: call(*told, event)
             for call in (event_wrong, struck) for event in (None, WORTHS)]
    CALLS += [lambda *told, rest=rest: through(*told, *rest) for rest in itertools.product((None, WORTHS), (None, STANDS))]
    CALLS += [lambda *told, rest=rest: through_wrong(*told, *rest)
              for rest in itertools.product((None, WORTHS), (None, STANDS), (None, ("through", [], STANDS, [])))]

    def test_what_is_no_town_or_standing_ahead_of_all(self):
        check_refused(self, self.CALLS)

    def test_the_midst_is_in_the_lot(self):
        for dice, town, standing in poor_cases(60, 128):
            event = some_event(dice, town, wealths(town, standing))
            behind, later = naive_behind(town, wealths(town, standing), event)
            for stands in all_placings(behind, later)[:3]:
                told = through(town, standing, event, stands)
                if told[0] == "through":
                    self.assertTrue(in_lot(town, standing, told[2]))


if __name__ == "__main__":
    unittest.main()
