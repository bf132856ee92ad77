"""Calendars: [61], [62], [7], and of them [1], [2] and [3]."""

import copy
import itertools
import random
import unittest

from samples import (ODD, STANDING, STANDS, TOWN, all_placings, check_own, check_refused, in_order, long_cases, lot,
                     naive_behind, naive_strike, poor_cases, some_event, with_thing, with_wealths)
from worthrooms import calendars
from worthrooms.calendars import MOST_STANDS, calendar_wrong, led, led_wrong, lots_behind
from worthrooms.counts import count, first
from worthrooms.errors import NoCalendar, NoStands, Short, TooGreat
from worthrooms.events import event_wrong
from worthrooms.towns import stands_of, wealths

TURNED = ("bob", "eve", "", "ann", "", "")
FIRST = first(TOWN, STANDING)
WORTHS = ("worths", (0, 5, 12, 0, 3, 3))


def some_calendar(dice, town, standing, many):
    """A calendar of so many events."""
    wealth = wealths(town, standing)
    found = []
    for _ in range(many):
        found.append(some_event(dice, town, wealth))
        town, wealth = naive_behind(town, wealth, found[-1])
    return found


def stages_of(town, standing, calendar):
    """The towns with the wealths ahead of, between and behind the events."""
    found = [(town, wealths(town, standing))]
    for event in calendar:
        found.append(naive_behind(*found[-1], event))
    return found


def lot_at(stage, stands):
    """All STANDS of the lot in a town, of these wealths, in their order."""
    town, wealth = stage
    return in_order(lot(town, with_wealths(town, stands, wealth)))


def naive_lots(town, standing, calendar):
    """For each number of events all lots that may be behind so many, each as its STANDS in order."""
    stages = stages_of(town, standing, calendar)
    found = [[lot_at(stages[0], stands_of(town, standing))]]
    for k, event in enumerate(calendar):
        behind = []
        for here in found[k]:
            for midst in here:
                there = naive_strike(stages[k][0], midst, stages[k][1], event)
                if there is not None and not any(there in known for known in behind):
                    behind.append(lot_at(stages[k + 1], there))
        found.append(behind)
    return found


def small_cases(many, seed, most=5):
    """Towns of few homes with a calendar of up to three events."""
    for dice, town, standing in poor_cases(many, seed):
        if len(town[0]) <= most:
            yield dice, town, standing, some_calendar(dice, town, standing, dice.choice([0, 1, 1, 2, 2, 3]))


class CalendarWrong(unittest.TestCase):
    def check(self, thing, fault):
        self.assertEqual(calendar_wrong(TOWN, STANDING, thing), fault, thing)

    def test_calendars(self):
        for thing in [[], [WORTHS], [("goes", "eve"), ("comes", "eve", "low", 1), ("goes", "eve")],
                      [("road", "low", "high"), ("bar", "high", "low"), ("road", "high", "low")]]:
            self.check(thing, None)

    def test_no_list(self):
        for thing in ODD + [(), (WORTHS,), WORTHS, {0: WORTHS}]:
            if not isinstance(thing, list):
                self.check(thing, ("calendar",))

    def test_the_first_that_is_no_event(self):
        for thing in ODD + [("fee", "cid", 1), ("comes", "eve", "low", 1), ("bar", "low", "x"), ("road", "low", "mid")]:
            wrong = event_wrong(TOWN, STANDING, thing)
            self.assertIsNotNone(wrong)
            self.check([thing], ("event", 0, wrong))
            self.check([WORTHS, ("fee", "eve", 1), thing, None], ("event", 2, wrong))
            self.check([thing, thing], ("event", 0, wrong))

    def test_of_the_town_and_hands_behind_those_ahead(self):
        self.check([("goes", "eve"), ("fee", "eve", 1)], ("event", 1, ("hand", 1)))
        self.check([("goes", "eve"), WORTHS, ("goes", "eve")], ("event", 2, ("hand", 1)))
        self.check([("comes", "zoe", "high", 1), ("comes", "zoe", "isle", 1)], ("event", 1, ("hand", 1)))
        self.check([("comes", "zoe", "high", 1), ("gift", "zoe", "eve", 1), ("goes", "zoe")], None)
        self.check([("road", "low", "high"), ("road", "high", "low")], ("event", 1, ("road",)))
        self.check([("bar", "low", "mid"), ("bar", "low", "mid")], ("event", 1, ("road",)))
        self.check([("bar", "low", "mid"), ("road", "mid", "low"), ("bar", "low", "mid")], None)

    def test_behind_one_that_can_strike_nowhere(self):
        self.check([("fee", "eve", 99), ("fee", "eve", 99), ("grant", "eve", 999)], None)
        self.check([("fee", "eve", 99), ("goes", "cid")], ("event", 1, ("hand", 1)))
        town, standing = ((("a", 0),), ()), (("x", 0),)
        self.assertIsNone(calendar_wrong(town, standing, [("comes", "y", "a", 1), ("goes", "x"), ("fee", "y", 1)]))
        self.assertEqual(calendar_wrong(town, standing, [("comes", "y", "a", 1), ("comes", "y", "a", 1)]),
                         ("event", 1, ("hand", 1)))

    def test_on_small_towns(self):
        for dice, town, standing, calendar in small_cases(200, 140):
            self.assertIsNone(calendar_wrong(town, standing, calendar))

    def test_what_is_handed_in_stays(self):
        for thing in [[("goes", "eve"), ["goes", "bob"]], [[]], {"calendar": [WORTHS]}]:
            ahead = copy.deepcopy(thing)
            calendar_wrong(TOWN, STANDING, thing)
            self.assertEqual(thing, ahead)

    def test_by_name(self):
        self.assertEqual(calendar_wrong(thing=None, standing=STANDING, town=TOWN), ("calendar",))


class LotsBehind(unittest.TestCase):
    def test_of_the_sample(self):
        self.assertEqual(lots_behind(TOWN, STANDING, []), [[FIRST]])
        self.assertEqual(lots_behind(TOWN, STANDING, [WORTHS]), [[FIRST], [FIRST]])
        told = lots_behind(TOWN, STANDING, [("bar", "low", "mid"), ("road", "mid", "low")])
        self.assertEqual(told, [[FIRST], sorted([("bob", "eve", "", "ann", "", ""), ("eve", "bob", "", "ann", "", ""),
                                                 ("", "eve", "bob", "ann", "", "")]), [FIRST]])

    def test_two_events_are_not_as_one(self):
        # Behind the first midnight nobody can pay the second one, though behind both together each could.
        town = ((("a", 0), ("b", 4)), (("a", "b"),))
        standing = (("x", 4), ())
        told = lots_behind(town, standing, [("worths", (9, 4)), ("worths", (9, 9))])
        self.assertEqual(told, [[("x", "")], [("", "x")], []])
        told = lots_behind(town, standing, [("worths", (0, 9)), ("worths", (0, 0))])
        self.assertEqual(told, [[("x", "")], [("x", "")], [("x", "")]])

    def test_from_where_on_none_can_strike(self):
        told = lots_behind(TOWN, STANDING, [WORTHS, ("fee", "eve", 6), ("grant", "eve", 60)])
        self.assertEqual(told, [[FIRST], [FIRST], [], []])
        town, standing = ((("a", 0),), ()), (("x", 0),)
        told = lots_behind(town, standing, [("comes", "y", "a", 1), ("goes", "x"), ("fee", "y", 1)])
        self.assertEqual(told, [[("x",)], [], [], []])

    def test_sorted_as_tuples(self):
        town = ((("a", 0), ("b", 0), ("c", 0)), (("a", "b"), ("b", "c")))
        standing = (("x", 0), ("y", 0), ())
        calendar = [("bar", "a", "b"), ("bar", "b", "c")]
        told = lots_behind(town, standing, calendar)
        self.assertEqual(told[1:], [sorted([("x", "y", ""), ("y", "x", ""), ("", "x", "y")]),
                                    sorted(set(itertools.permutations(["x", "y", ""])))])

    def test_by_all_standings_on_small_towns(self):
        seen = {"none": 0, "one": 0, "more": 0}
        for dice, town, standing, calendar in small_cases(700, 141):
            told = lots_behind(town, standing, calendar)
            wanted = [sorted(found[0] for found in lots) for lots in naive_lots(town, standing, calendar)]
            self.assertEqual(told, wanted, (town, standing, calendar))
            for lots in told[1:]:
                seen["more" if len(lots) > 1 else "one" if lots else "none"] += 1
        self.assertGreater(min(seen.values()), 30)

    def check_great(self, town, standing, calendar, great, **told):
        """Both functions refuse it as too great, or neither does."""
        stands = stands_of(town, standing)
        for call in (lots_behind, lambda *rest, **more: led(*rest, stands, **more)):
            if not great:
                call(town, standing, calendar, **told)
                continue
            with self.assertRaises(TooGreat) as caught:
                call(town, standing, calendar, **told)
            self.assertEqual(caught.exception.most, told.get("most", 720))

    def test_too_great_just_where_told_on_small_towns(self):
        seen = {True: 0, False: 0}
        for dice, town, standing, calendar in small_cases(150, 142):
            lots = naive_lots(town, standing, calendar)
            least = max([len(found) for found in lots] + [len(here) for found in lots[:-1] for here in found])
            for most in {0, 1, least - 1, least, least + 1}:
                if most < least:
                    with self.assertRaises(TooGreat) as caught:
                        lots_behind(town, standing, calendar, most=most)
                    self.assertEqual(caught.exception.most, most)
                else:
                    told = lots_behind(town, standing, calendar, most=most)
                    self.assertEqual(told, [sorted(here[0] for here in found) for found in lots])
                seen[most < least] += 1
        self.assertGreater(min(seen.values()), 100)

    def test_none_is_let_by_where_most_is_0(self):
        for calendar in ([], [WORTHS]):
            self.assertRaises(TooGreat, lots_behind, TOWN, STANDING, calendar, most=0)
        self.assertEqual(lots_behind(TOWN, STANDING, [], most=1), [[FIRST]])

    def test_the_last_lots_may_be_great_but_not_many(self):
        ring = (tuple((f"h{k}", 0) for k in range(7)), tuple((f"h{k}", f"h{(k + 1) % 7}") for k in range(7)))
        full = tuple((f"p{k}", 0) for k in range(7))
        self.check_great(ring, full, [], False)
        self.check_great(ring, full, [("grant", "p0", 1)], True)
        self.check_great(ring, full, [("grant", "p0", 1)], True, most=5039)
        self.check_great(ring, full, [("grant", "p0", 1)], False, most=5040)
        # Whatever the event: also such as can strike nowhere.
        self.assertRaises(TooGreat, lots_behind, ring, full, [("fee", "p0", 1)])
        self.check_great(ring, full, [("fee", "p0", 1), ("grant", "p0", 1)], True)
        self.assertEqual(lots_behind(ring, full, [("fee", "p0", 1)], most=5040), [[tuple(f"p{k}" for k in range(7))], []])

    def test_most_stands(self):
        self.assertEqual(MOST_STANDS, 720)
        self.assertEqual(calendars.MOST_STANDS, MOST_STANDS)
        ring = (tuple((f"h{k}", 0) for k in range(6)), tuple((f"h{k}", f"h{(k + 1) % 6}") for k in range(6)))
        full = tuple((f"p{k}", 0) for k in range(6))
        self.check_great(ring, full, [("grant", "p0", 1)], False)
        self.check_great(ring, full, [("grant", "p0", 1)], True, most=719)
        # 28 times 27 is 756, 27 times 26 is 702.
        homes = tuple((f"h{k}", 0) for k in range(28))
        line = tuple((f"h{k}", f"h{k + 1}") for k in range(27))
        self.check_great((homes, line), (("x", 0), ("y", 0)) + ((),) * 26, [("grant", "x", 1)], True)
        self.check_great((homes[:27], line[:26]), (("x", 0), ("y", 0)) + ((),) * 25, [("grant", "x", 1)], False)

    def test_many_lots(self):
        # Barring roads of a line splits it into lots by who stands on which side.
        line = (tuple((f"h{k}", 0) for k in range(6)), tuple((f"h{k}", f"h{k + 1}") for k in range(5)))
        full = tuple((f"p{k}", 0) for k in range(6))
        calendar = [("bar", "h0", "h1"), ("bar", "h4", "h5"), ("bar", "h2", "h3")]
        told = lots_behind(line, full, calendar)
        self.assertEqual([len(lots) for lots in told], [1, 6, 30, 180])
        self.check_great(line, full, calendar, False, most=720)
        self.check_great(line, full, calendar, True, most=719)
        # A lot of one who is alone is small, but there may be too many of them.
        homes = (("a", 0), ("b", 0), ("c", 0))
        town, standing = (homes, (("a", "b"), ("b", "c"))), (("x", 0), (), ())
        calendar = [("bar", "a", "b"), ("bar", "b", "c")]
        self.assertEqual([len(lots) for lots in lots_behind(town, standing, calendar, most=3)], [1, 2, 3])
        self.check_great(town, standing, calendar, True, most=2)
        self.check_great(town, standing, [*calendar, ("road", "a", "b")], False, most=3)

    def test_rooms_one_in_another(self):
        # Each of the poor has two homes left by the poorer ones, the first hand by name has the one that is left at last.
        homes = tuple((f"h{k}", max(0, k - 1)) for k in range(10))
        town = (homes, tuple((f"h{k}", f"h{k + 1}") for k in range(9)))
        standing = (("a", 9), *((f"p{9 - k}", 0) for k in range(1, 10)))
        self.assertEqual(count(town, standing), 512)
        told = lots_behind(town, standing, [("grant", "a", 1), ("grant", "p0", 1)])
        self.assertEqual(told, [[first(town, standing)]] * 3)
        told = lots_behind(town, standing, [("bar", "h8", "h9")])
        self.assertEqual(len(told[1]), 2)

    def test_the_last_list_alone_may_have_too_many_lots(self):
        town = ((("a", 0), ("b", 0), ("c", 5), ("d", 5)), (("a", "b"), ("a", "c"), ("b", "d")))
        standing = (("x", 0), (), (), ())
        calendar = [("bar", "a", "b"), ("worths", (0, 0, 0, 0)), ("bar", "a", "c")]
        told = lots_behind(town, standing, calendar)
        self.assertEqual([len(lots) for lots in told], [1, 2, 2, 3])
        self.assertEqual(lots_behind(town, standing, calendar[:2], most=2), told[:3])
        self.check_great(town, standing, calendar, True, most=2)
        self.check_great(town, standing, calendar, False, most=3)

    def test_great_towns(self):
        for dice, town, standing in long_cases(6, 143, bare=True):
            # All are shut in at their homes, but for two neighbours of one worth behind the midnight.
            worths = tuple(100 + 7 * k for k in range(len(town[0])))
            poor = tuple((there[0], 0) for there in standing)
            town = (tuple((name, worth) for (name, _), worth in zip(town[0], worths)), town[1])
            here = stands_of(town, poor)
            turned = ("p1", "p0", *here[2:])
            calendar = [("worths", (100, 100) + worths[2:]), ("gift", "p1", "p0", 7), ("bar", "h1", "h0")]
            told = lots_behind(town, poor, calendar)
            self.assertEqual(told, [[here], [here], [here], sorted([here, turned])])
            for stands in (here, turned):
                word, midsts = led(town, poor, calendar, stands)
                self.assertEqual((word, midsts[0], midsts[2]), ("led", here, stands))
            told = led(town, poor, calendar[:1] + [("goes", "p1")], ("", "p0", *here[2:]))
            self.assertEqual(told[0], "led")
            # With an empty home all rooms are open, so there are too many STANDS to go on from.
            self.assertRaises(TooGreat, lots_behind, town, poor, [("goes", "p1"), ("comes", "p1", "h1", 1)])

    def test_what_was_told_is_the_askers_own(self):
        check_own(self, lambda: lots_behind(TOWN, STANDING, [("bar", "low", "mid"), ("fee", "eve", 99), WORTHS]))
        check_own(self, lambda: lots_behind(TOWN, STANDING, [WORTHS, WORTHS]))

    def test_what_is_handed_in_stays(self):
        calendar = [("goes", "eve"), WORTHS]
        told = lots_behind(TOWN, STANDING, calendar)
        self.assertEqual(calendar, [("goes", "eve"), WORTHS])
        calendar.clear()
        self.assertEqual(len(told), 3)

    def test_by_name(self):
        self.assertEqual(lots_behind(most=9, calendar=[], standing=STANDING, town=TOWN), [[FIRST]])
        self.assertRaises(TypeError, lots_behind, TOWN, STANDING, [], 720)


def led_fault(town, standing, calendar, stands, midsts):
    """What led_wrong should tell of midsts that are right by form, by the words of 62."""
    stages = stages_of(town, standing, calendar)
    here = lot_at(stages[0], stands_of(town, standing))
    for k, midst in enumerate(midsts):
        if midst not in here:
            return ("midst", k)
        there = naive_strike(stages[k][0], midst, stages[k][1], calendar[k])
        if there is None:
            return ("strike", k)
        here = lot_at(stages[k + 1], there)
    return None if stands in here else ("end",)


def closed_fault(town, standing, calendar, stands, lots):
    """What led_wrong should tell of lists of lots that are right by form, by the words of 62."""
    stages = stages_of(town, standing, calendar)
    if lot_at(stages[0], stands_of(town, standing))[0] not in lots[0]:
        return ("begin",)
    for k, event in enumerate(calendar):
        for listed in lots[k]:
            for midst in lot_at(stages[k], listed):
                there = naive_strike(stages[k][0], midst, stages[k][1], event)
                if there is not None and lot_at(stages[k + 1], there)[0] not in lots[k + 1]:
                    return ("open", k, midst)
    return ("there",) if lot_at(stages[-1], stands)[0] in lots[-1] else None


class Led(unittest.TestCase):
    def check(self, town, standing, calendar, stands, can):
        told = led(town, standing, calendar, stands)
        self.assertEqual((type(told), len(told), told[0]), (tuple, 2, "led" if can else "closed"))
        if can:
            self.assertEqual((type(told[1]), len(told[1])), (list, len(calendar)))
            self.assertIsNone(led_fault(town, standing, calendar, stands, told[1]))
        else:
            self.assertEqual(told[1], lots_behind(town, standing, calendar))
        self.assertIsNone(led_wrong(town, standing, calendar, stands, told))

    def test_of_the_sample(self):
        self.check(TOWN, STANDING, [], STANDS, True)
        self.check(TOWN, STANDING, [], TURNED, True)
        self.assertEqual(led(TOWN, STANDING, [], STANDS), ("led", []))
        self.check(TOWN, STANDING, [], ("eve", "bob", "", "", "ann", ""), False)
        self.check(TOWN, STANDING, [("bar", "low", "mid")], TURNED, True)
        self.check(TOWN, STANDING, [("bar", "low", "mid"), WORTHS], ("", "bob", "", "ann", "", "eve"), False)
        self.check(TOWN, STANDING, [("fee", "bob", 12), ("fee", "eve", 2)], ("bob", "", "", "ann", "eve", ""), False)

    def test_by_all_standings_on_small_towns(self):
        seen = {True: 0, False: 0}
        for dice, town, standing, calendar in small_cases(250, 144):
            behind, wealth = stages_of(town, standing, calendar)[-1]
            can = all_placings(behind, wealth)
            reached = {stands for found in naive_lots(town, standing, calendar)[-1] for stands in found}
            some = [stands for stands in can if stands in reached]
            other = [stands for stands in can if stands not in reached]
            for stands in dice.sample(some, min(2, len(some))) + dice.sample(other, min(2, len(other))):
                self.check(town, standing, calendar, stands, stands in reached)
                seen[stands in reached] += 1
        self.assertGreater(min(seen.values()), 100)

    def test_refusals_in_their_order(self):
        great = [("grant", "ann", 1)]
        calls = [led, lambda *told, **more: led_wrong(*told, None, **more)]
        for call in calls:
            for calendar in (None, (), [None], [WORTHS, ("goes", "cid")]):
                for stands in (STANDS, None):
                    with self.assertRaises(NoCalendar) as caught:
                        call(TOWN, STANDING, calendar, stands, most=0)
                    self.assertEqual(caught.exception.wrong, calendar_wrong(TOWN, STANDING, calendar))
            ill = [thing for thing in ODD] + [list(STANDS), STANDS[:5], STANDING, ("zoe", *STANDS[1:])]
            for stands, calendar in itertools.product(ill, ([], great, [("fee", "eve", 99)])):
                self.assertRaises(NoStands, call, TOWN, STANDING, calendar, stands, most=0)
            self.assertRaises(NoStands, call, TOWN, STANDING, [("goes", "eve")], STANDS)
            self.assertRaises(NoStands, call, TOWN, STANDING, [("comes", "zoe", "low", 1)], STANDS)
            for calendar, stands, hand, lacks in [
                    ([("fee", "eve", 9)], STANDS, "eve", 4), ([WORTHS, ("fee", "bob", 8)], STANDS, "bob", 1),
                    ([], ("eve", "bob", "ann", "", "", ""), "ann", 1),
                    ([("worths", (9, 99, 0, 0, 0, 0)), ("grant", "bob", 1)], STANDS, "bob", 86)]:
                with self.assertRaises(Short) as caught:
                    call(TOWN, STANDING, calendar, stands, most=0)
                short = caught.exception
                self.assertEqual((short.hand, short.lacks, short.at), (hand, lacks, None))
        for most in (0, 1, 3):
            with self.assertRaises(TooGreat) as caught:
                led(TOWN, STANDING, great, STANDS, most=most)
            self.assertEqual(caught.exception.most, most)
        self.assertEqual(led(TOWN, STANDING, great, STANDS, most=4)[0], "led")
        self.assertRaises(TooGreat, led, TOWN, STANDING, [], STANDS, most=0)

    def test_no_stands_where_no_home_is_left(self):
        town, standing = ((("a", 0),), ()), (("x", 0),)
        for stands in (("x",), ("y",), ("x", "y"), ()):
            self.assertRaises(NoStands, led, town, standing, [("comes", "y", "a", 1)], stands)
        told = led(town, standing, [("comes", "y", "a", 1), ("goes", "x")], ("y",))
        self.assertEqual(told, ("closed", [[("x",)], [], []]))

    def test_what_was_told_is_the_askers_own(self):
        check_own(self, lambda: led(TOWN, STANDING, [("bar", "low", "mid"), WORTHS], TURNED))
        check_own(self, lambda: led(TOWN, STANDING, [("bar", "low", "mid"), WORTHS], ("eve", "", "", "bob", "", "ann")))

    def test_by_name(self):
        told = led(most=1, stands=STANDS, calendar=[], standing=STANDING, town=TOWN)
        self.assertEqual(told, ("led", []))
        self.assertRaises(TypeError, led, TOWN, STANDING, [], STANDS, 720)


# Bob pays all that it has: that it can in the low home alone.
PAYS = [("fee", "bob", 12), WORTHS]
PAID = ("bob", "eve", "", "ann", "", "")
NEVER = ("bob", "", "", "ann", "eve", "")
LOTS = [[FIRST], [PAID], [PAID]]


class LedWrong(unittest.TestCase):
    def check(self, stands, thing, fault, calendar=PAYS):
        self.assertEqual(led_wrong(TOWN, STANDING, calendar, stands, thing), fault, thing)

    def test_led(self):
        self.check(PAID, ("led", [PAID, PAID]), None)
        self.check(STANDS, ("led", []), None, [])
        self.check(TURNED, ("led", [STANDS, TURNED]), None, [WORTHS, WORTHS])

    def test_each_fault_of_midsts(self):
        self.check(PAID, ("led", [NEVER, PAID]), ("midst", 0))
        self.check(PAID, ("led", [STANDS, PAID]), ("strike", 0))
        self.check(PAID, ("led", [STANDS, NEVER]), ("strike", 0))
        self.check(PAID, ("led", [PAID, NEVER]), ("midst", 1))
        self.check(PAID, ("led", [NEVER, NEVER]), ("midst", 0))
        self.check(NEVER, ("led", [PAID, PAID]), ("end",))
        self.check(NEVER, ("led", []), ("end",), [])
        self.check(TURNED, ("led", [STANDS, STANDS]), ("strike", 1), [WORTHS, ("fee", "bob", 12)])
        self.check(TURNED, ("led", [STANDS, TURNED]), ("midst", 1), [("bar", "mid", "low"), WORTHS])

    def test_closed(self):
        self.check(NEVER, ("closed", LOTS), None)
        # More than can be is let by.
        self.check(NEVER, ("closed", [[NEVER, FIRST], [PAID, NEVER], [PAID]]), ("open", 1, NEVER))
        self.check(NEVER, ("closed", [[FIRST, STANDS, FIRST], [PAID, PAID], [PAID]]), None)
        self.check(("eve", "bob", "", "", "ann", ""), ("closed", [[FIRST]]), None, [])

    def test_each_fault_of_lots(self):
        self.check(NEVER, ("closed", [[], [PAID], [PAID]]), ("begin",))
        self.check(NEVER, ("closed", [[STANDS], [PAID], [PAID]]), ("begin",))
        self.check(NEVER, ("closed", [[], [], []]), ("begin",))
        self.check(NEVER, ("closed", [[FIRST], [], []]), ("open", 0, PAID))
        self.check(NEVER, ("closed", [[FIRST], [PAID], []]), ("open", 1, PAID))
        self.check(PAID, ("closed", LOTS), ("there",))
        self.check(PAID, ("closed", [[FIRST], [PAID], []]), ("open", 1, PAID))
        self.check(STANDS, ("closed", [[FIRST]]), ("there",), [])
        self.check(STANDS, ("closed", [[]]), ("begin",), [])

    def test_the_first_stands_that_lead_out_of_the_lists(self):
        calendar = [("bar", "low", "mid")]
        behind = [("bob", "eve", "", "ann", "", ""), ("eve", "bob", "", "ann", "", ""), ("", "eve", "bob", "ann", "", "")]
        wished = ("eve", "", "", "ann", "bob", "")
        for left, midst in [(0, PAID), (1, STANDS), (2, ("", "eve", "bob", "ann", "", ""))]:
            lots = [there for k, there in enumerate(behind) if k != left]
            self.check(wished, ("closed", [[FIRST], lots]), ("open", 0, midst), calendar)
        self.check(wished, ("closed", [[FIRST], []]), ("open", 0, PAID), calendar)
        self.check(wished, ("closed", [[FIRST], behind]), None, calendar)
        # Of the lots in the order of the list, not in any other one.
        other = ("eve", "bob", "", "", "ann", "")
        can = other[:4] + ("ann", "")
        self.check(wished, ("closed", [[can, FIRST], behind]), ("open", 0, ("bob", "eve", "", "", "ann", "")), calendar)
        self.check(wished, ("closed", [[FIRST, can], behind]), ("open", 0, ("bob", "eve", "", "", "ann", "")), calendar)
        self.check(wished, ("closed", [[FIRST, can], behind[1:]]), ("open", 0, PAID), calendar)

    def test_what_is_in_a_list_stands_for_its_lot_but_is_not_its_first(self):
        self.check(NEVER, ("closed", [[FIRST], [PAID], [TURNED]]), None)
        town = ((("a", 0), ("b", 0), ("c", 3)), (("a", "b"),))
        standing = (("x", 0), (), ())
        grant = [("grant", "x", 1), ("grant", "x", 1)]
        one, other, never = ("x", "", ""), ("", "x", ""), ("", "", "x")
        calendar = grant + [("grant", "x", 1)]
        self.assertEqual(led_wrong(town, standing, calendar, never, ("closed", [[one]] * 4)), None)
        self.assertEqual(led_wrong(town, standing, calendar, never, ("closed", [[other], [one], [one], [one]])), ("begin",))
        for k in range(3):
            lots = [[one] for _ in range(4)]
            lots[k + 1] = [other]
            told = led_wrong(town, standing, calendar, never, ("closed", lots))
            self.assertEqual(told, ("open", k, one))
            lots[k + 1] = [other, one]
            self.assertIsNone(led_wrong(town, standing, calendar, never, ("closed", lots)))
            lots[k] = [other, one]
            lots[k + 1] = []
            told = led_wrong(town, standing, calendar, never, ("closed", lots))
            self.assertEqual(told, ("open", k, one))

    def test_no_paper(self):
        poorer = ("eve", "bob", "ann", "", "", "")
        ill = [thing for thing in ODD] + [("led",), ["led", [PAID, PAID]], ("led", [PAID, PAID], None), ("led", (PAID, PAID))]
        ill += [("Led", [PAID, PAID]), (None, [PAID, PAID]), ({}, [PAID, PAID]), ("led", [PAID]), ("led", [PAID] * 3)]
        ill += [("led", thing) for thing in ODD] + [("led", LOTS), ("led", [])]
        ill += [("led", [thing, PAID]) for thing in ODD] + [("led", [PAID, thing]) for thing in ODD]
        stands = [list(PAID), PAID[:5], (*PAID, ""), ("",) * 6, ("zoe", *PAID[1:]), STANDING, poorer]
        stands += [with_thing(PAID, k, thing) for k in range(6) for thing in ODD if thing not in ("", PAID[k])]
        ill += [("led", [thing, PAID]) for thing in stands] + [("led", [PAID, thing]) for thing in stands]
        # Behind the fee bob can't afford its old home.
        ill += [("led", [PAID, STANDS])]
        ill += [("closed",), ["closed", LOTS], ("closed", LOTS, None), ("closed", tuple(LOTS)), ("Closed", LOTS)]
        ill += [("closed", LOTS[:2]), ("closed", LOTS + [[]]), ("closed", []), ("closed", [PAID, PAID, PAID])]
        ill += [("closed", thing) for thing in ODD] + [("closed", [PAID, PAID])]
        for k in range(3):
            for thing in [thing for thing in ODD if thing != []] + [(PAID,), {PAID: True}, PAID, "", [[PAID]]]:
                ill.append(("closed", LOTS[:k] + [thing] + LOTS[k + 1:]))
            for thing in ODD + stands:
                ill.append(("closed", LOTS[:k] + [LOTS[k] + [thing]] + LOTS[k + 1:]))
        ill += [("closed", [[FIRST], [STANDS], [PAID]]), ("closed", [[FIRST], [PAID], [PAID, STANDS]])]
        for stands in (PAID, NEVER):
            for thing in ill:
                self.check(stands, thing, ("paper",))

    def test_hands_that_are_there_then(self):
        calendar = [("goes", "eve"), ("comes", "zoe", "low", 1)]
        end = ("zoe", "bob", "", "ann", "", "")
        gone = ("", "bob", "", "ann", "", "")
        self.check(end, ("led", [STANDS, gone]), None, calendar)
        for midsts in ([STANDS, STANDS], [gone, gone], [STANDS, end], [STANDS, ("eve", *gone[1:])]):
            self.check(end, ("led", midsts), ("paper",), calendar)
        self.check(end, ("led", [STANDS, ("bob", "", "", "ann", "", "")]), ("strike", 1), calendar)
        for k, lots in [(0, [[gone], [gone], [end]]), (1, [[FIRST], [FIRST], [end]]), (2, [[FIRST], [gone], [gone]])]:
            self.check(end, ("closed", lots), ("paper",), calendar)

    def test_on_small_towns(self):
        seen = {}
        for dice, town, standing, calendar in small_cases(300, 145, most=4):
            stages = stages_of(town, standing, calendar)
            can = [all_placings(*stage) for stage in stages]
            if not can[-1]:
                continue
            stands = dice.choice(can[-1])
            word, told = led(town, standing, calendar, stands)
            for _ in range(4):
                if all(can[:-1]):
                    midsts = [dice.choice(found) for found in can[:-1]]
                    if word == "led":
                        midsts = [dice.choice([one, one, other]) for one, other in zip(told, midsts)]
                    fault = led_fault(town, standing, calendar, stands, midsts)
                    self.assertEqual(led_wrong(town, standing, calendar, stands, ("led", midsts)), fault)
                    seen["led", fault and fault[0]] = seen.get(("led", fault and fault[0]), 0) + 1
                lots = lots_behind(town, standing, calendar)
                for found, more in zip(lots, can):
                    dice.shuffle(found)
                    if found and dice.random() < 0.2:
                        found.pop()
                    if more and dice.random() < 0.3:
                        found.insert(dice.randint(0, len(found)), dice.choice(more))
                fault = closed_fault(town, standing, calendar, stands, lots)
                self.assertEqual(led_wrong(town, standing, calendar, stands, ("closed", lots)), fault)
                seen["closed", fault and fault[0]] = seen.get(("closed", fault and fault[0]), 0) + 1
        self.assertEqual(len(seen), 8, seen)
        self.assertGreater(min(seen.values()), 10, seen)

    def check_great(self, things, most, great, calendar=PAYS, stands=NEVER):
        for thing in things:
            if not great:
                led_wrong(TOWN, STANDING, calendar, stands, thing, most=most)
                continue
            with self.assertRaises(TooGreat) as caught:
                led_wrong(TOWN, STANDING, calendar, stands, thing, most=most)
            self.assertEqual(caught.exception.most, most)

    def test_too_great_of_closed_alone(self):
        self.check_great([("closed", LOTS), ("closed", [[], [PAID], []]), ("closed", [[STANDS], [], []])], 4, False)
        self.check_great([("closed", LOTS), ("closed", [[STANDS], [], []]), ("closed", [[FIRST], [], []])], 3, True)
        # Also of a lot that isn't the one to begin with, of later lists, not of the last one.
        other = ("bob", "eve", "", "", "ann", "")
        self.check_great([("closed", [[other], [], []])], 3, True)
        for most, great in ((0, True), (1, False)):
            self.check_great([("closed", [[], [PAID], []])], most, great)
        self.check_great([("closed", [[], [], [PAID]]), ("closed", [[], [], []])], 0, False)
        self.check_great([("closed", [[FIRST]]), ("closed", [[]])], 0, False, [])
        self.check_great([("led", [PAID, PAID]), ("led", [STANDS, PAID])], 0, False)
        # Lists of many lots are let by.
        lots = [[FIRST, STANDS, TURNED] * 9, [PAID] * 20, [PAID] * 5]
        self.check_great([("closed", lots)], 4, False)

    def test_too_great_behind_the_paper_ahead_of_the_beginning(self):
        for most in (0, 1, 3):
            told = led_wrong(TOWN, STANDING, PAYS, NEVER, ("closed", [[STANDS], [PAID], [None]]), most=most)
            self.assertEqual(told, ("paper",))
            self.assertRaises(TooGreat, led_wrong, TOWN, STANDING, PAYS, NEVER, ("closed", [[STANDS], [], []]), most=most)
        self.assertEqual(led_wrong(TOWN, STANDING, PAYS, NEVER, ("closed", [[STANDS], [], []]), most=4), ("begin",))

    def test_most_where_it_is_not_told(self):
        for many, great in ((6, False), (7, True)):
            town = (tuple((f"h{k}", 0) for k in range(many)), tuple((f"h{k}", f"h{k + 1}") for k in range(many - 1)))
            full = tuple((f"p{k}", 0) for k in range(many))
            stands = stands_of(town, full)
            thing = ("closed", [[stands], [stands]])
            if great:
                with self.assertRaises(TooGreat) as caught:
                    led_wrong(town, full, [("grant", "p0", 1)], stands, thing)
                self.assertEqual(caught.exception.most, 720)
            else:
                self.assertEqual(led_wrong(town, full, [("grant", "p0", 1)], stands, thing), ("there",))

    def test_many_lots_that_are_listed_by_all_their_stands(self):
        line = (tuple((f"h{k}", 0) for k in range(5)), tuple((f"h{k}", f"h{k + 1}") for k in range(4)))
        full = tuple((f"p{k}", 0) for k in range(5))
        all_stands = sorted(itertools.permutations(f"p{k}" for k in range(5)))
        random.Random(146).shuffle(all_stands)
        calendar = [("bar", "h1", "h2"), ("bar", "h3", "h4"), ("bar", "h0", "h1")]
        thing = ("closed", [all_stands] * 4)
        self.assertEqual(led_wrong(line, full, calendar, all_stands[0], thing), ("there",))

    def test_what_is_handed_in_stays(self):
        for thing in [("closed", copy.deepcopy(LOTS)), ("led", [PAID, STANDS]), ("closed", [[[]], [{}], None])]:
            ahead = copy.deepcopy(thing)
            calendar = list(PAYS)
            led_wrong(TOWN, STANDING, calendar, NEVER, thing)
            self.assertEqual((thing, calendar), (ahead, PAYS))

    def test_by_name(self):
        told = led_wrong(most=9, thing=("led", []), stands=STANDS, calendar=[], standing=STANDING, town=TOWN)
        self.assertIsNone(told)
        self.assertRaises(TypeError, led_wrong, TOWN, STANDING, [], STANDS, ("led", []), 720)


class Refusals(unittest.TestCase):
    CALLS = [lambda *told, call=call, thing=thing: call(*told, thing)
             for call in (calendar_wrong, lots_behind) for thing in (None, [], [None])]
    CALLS += [lambda *told, call=call, rest=rest: call(*told, *rest)
              for call in (led, lambda *told: led_wrong(*told, None), lambda *told: led_wrong(*told, ("led", [])))
              for rest in itertools.product((None, []), (None, STANDS))]

    def test_what_is_no_town_or_standing_ahead_of_all(self):
        check_refused(self, self.CALLS)

    def test_what_is_no_calendar(self):
        for thing in [thing for thing in ODD if thing != []] + [[WORTHS, None], [("fee", "cid", 1)]]:
            for most in (0, 720):
                with self.assertRaises(NoCalendar) as caught:
                    lots_behind(TOWN, STANDING, thing, most=most)
                self.assertEqual(caught.exception.wrong, calendar_wrong(TOWN, STANDING, thing))


if __name__ == "__main__":
    unittest.main()
