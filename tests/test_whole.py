"""The whole document: what its parts tell of the same thing agrees. [1], [2], and all points taken together."""

import ast
import inspect
import itertools
import pathlib
import random
import unittest

from samples import (all_placings, greatest_case, hands_of, long_cases, lot, naive_behind, poor_cases, random_cases,
                     shuffled_in_rooms, some_event, with_coins)
from worthrooms import errors
from worthrooms.bands import alike, alike_wrong, band, stripped
from worthrooms.calendars import led, led_wrong, lots_behind
from worthrooms.counts import count, first, loose, mean, nth, number, share
from worthrooms.errors import Barred, Needed, Short, Taken
from worthrooms.events import struck, through, through_wrong
from worthrooms.exchanges import exchanged, gone, may
from worthrooms.gifts import both_papers, least_grant
from worthrooms.needs import beside, needed, roads_wanted, roads_wrong
from worthrooms.rooms import in_lot, room_of, rooms
from worthrooms.towns import placed, standing_wrong, stands_of, town_wrong, wealths
from worthrooms.walls import fence, fence_wrong
from worthrooms.ways import bring, bring_wrong, come, come_wrong
from worthrooms.wishes import by_coins, granted, granted_wrong, left


def wished_in(dice, town, standing):
    """Wishes of some hands for a few homes."""
    names = [name for name, _ in town[0]]
    return {hand: dice.choices(names, k=2) for hand in wealths(town, standing) if dice.random() < 0.6}


def told_of_the_lot(town, standing, wishes, event):
    """Much that hangs on the lot alone."""
    hands, names = list(wealths(town, standing)), [name for name, _ in town[0]]
    pairs = list(itertools.product(hands, names))
    return {
        "wealths": wealths(town, standing), "rooms": rooms(town, standing), "count": count(town, standing),
        "room_of": [room_of(town, standing, hand) for hand in hands], "first": first(town, standing),
        "fence": [fence(town, standing, hand) for hand in hands],
        "bring": [bring(town, standing, *pair)[0] for pair in pairs], "nth": nth(town, standing, count(town, standing) - 1),
        "given": [count(town, standing, given=dict([pair])) for pair in pairs],
        "share": [share(town, standing, *pair) for pair in pairs],
        "mean": [mean(town, standing, hand) for hand in hands], "loose": [loose(town, standing, hand) for hand in hands],
        "band": [band(town, standing, hand) for hand in hands], "roads": len(roads_wanted(town, standing)),
        "granted": granted(town, standing, wishes)[0], "left": left(town, standing, wishes),
        "by_coins": by_coins(town, standing, {hand: 1 for hand in hands}), "event": event_told(town, standing, event),
        "gifts": [least_grant(town, standing, hand, other, home) for hand in hands for other, home in pairs],
        "lots": lots_behind(town, standing, [event], most=10 ** 6),
    }


def event_told(town, standing, event):
    """The words that through tells of some STANDS behind the event."""
    behind, wealth = naive_behind(town, wealths(town, standing), event)
    return [through(town, standing, event, stands)[0] for stands in all_placings(behind, wealth)[:6]]


class OneLot(unittest.TestCase):
    def test_exchanges_done_and_undone_change_nothing(self):
        for dice, town, standing in itertools.chain(poor_cases(40, 150), random_cases(10, 150)):
            wishes = wished_in(dice, town, standing)
            event = some_event(dice, town, wealths(town, standing))
            told = told_of_the_lot(town, standing, wishes, event)
            there = standing
            for _ in range(6):
                if may(town, there):
                    there = exchanged(town, there, dice.choice(may(town, there)))
            self.assertEqual(told_of_the_lot(town, there, wishes, event), told)
            here = stands_of(town, standing)
            self.assertEqual(number(town, there, here), number(town, standing, here))
            _, row = come(town, there, here)
            self.assertEqual(gone(town, there, row), standing)
            self.assertEqual(stripped(town, placed(town, standing, stands_of(town, there))), stripped(town, there))

    def test_whoever_asks_again_is_told_the_same(self):
        for dice, town, standing in poor_cases(20, 151):
            wishes = wished_in(dice, town, standing)
            event = some_event(dice, town, wealths(town, standing))
            told = told_of_the_lot(town, standing, wishes, event)
            self.assertEqual(told_of_the_lot(town, standing, wishes, event), told)


class Judges(unittest.TestCase):
    """What one part tells is let by by the judge of the other."""

    def check_bring(self, town, standing, hand, home):
        told = bring(town, standing, hand, home)
        self.assertIsNone(bring_wrong(town, standing, hand, home, told))
        inside = home in room_of(town, standing, hand)
        self.assertEqual(told[0], "row" if inside else "barred")
        self.assertEqual(share(town, standing, hand, home) != (0, 1), inside)
        if not inside:
            with self.assertRaises(Barred) as caught:
                needed(town, standing, hand, home)
            self.assertIsNone(bring_wrong(town, standing, hand, home, ("barred", hand, caught.exception.paper)))
        else:
            places = [name for name, _ in town[0]]
            self.assertEqual(stands_of(town, gone(town, standing, told[1]))[places.index(home)], hand)
        return inside

    def test_brought_beside_others(self):
        for dice, town, standing in itertools.chain(poor_cases(100, 152), long_cases(3, 152)):
            hands = list(wealths(town, standing))
            for _ in range(min(4, len(hands))):
                hand, home = dice.choice(hands), dice.choice(town[0])[0]
                if self.check_bring(town, standing, hand, home) and len(hands) > 1:
                    other = dice.choice([other for other in hands if other != hand])
                    try:
                        row = beside(town, standing, hand, home, other)
                        self.assertIsNone(bring_wrong(town, standing, hand, home, ("row", row)))
                        self.assertNotIn(other, needed(town, standing, hand, home))
                    except Needed:
                        self.assertIn(other, needed(town, standing, hand, home))

    def test_numbered_stands_come_about(self):
        for dice, town, standing in itertools.chain(poor_cases(100, 153), long_cases(3, 153)):
            stands = nth(town, standing, dice.randrange(count(town, standing)))
            self.assertTrue(in_lot(town, standing, stands))
            told = come(town, standing, stands)
            self.assertIsNone(come_wrong(town, standing, stands, told))
            self.assertEqual(told[0], "row")
            self.assertIsNone(granted_wrong(town, standing, {}, ("granted", stands)))
            self.assertIsNone(led_wrong(town, standing, [], stands, ("led", [])))
            there = placed(town, standing, stands)
            self.assertEqual(first(town, there), first(town, standing))
            coins = {what[0]: what[1] for what in there if what}
            wishes = by_coins(town, standing, coins)
            self.assertIsNone(granted_wrong(town, standing, wishes, ("granted", stands)))

    def test_with_idle_coins_and_roads_taken_away(self):
        for dice, town, standing in itertools.chain(poor_cases(100, 154), long_cases(3, 154)):
            bare, poor = (town[0], tuple(roads_wanted(town, standing))), stripped(town, standing)
            self.assertEqual(alike(town, standing, poor), ("alike",))
            self.assertIsNone(roads_wrong(town, standing, list(bare[1])))
            self.assertEqual(roads_wanted(bare, standing), list(bare[1]))
            for hand in wealths(town, standing):
                self.assertEqual(room_of(bare, poor, hand), room_of(town, standing, hand))
                self.assertEqual(mean(bare, standing, hand), mean(town, standing, hand))
            self.assertEqual(count(bare, poor), count(town, standing))
            stands = nth(bare, poor, count(bare, poor) // 2)
            self.assertIsNone(come_wrong(town, standing, stands, come(bare, standing, stands)))

    def test_apart_by_papers(self):
        seen = 0
        for dice, town, standing in poor_cases(150, 155):
            other = with_coins(standing, {hand: dice.choice([0, 1, 2, 5]) for hand in wealths(town, standing)})
            told = alike(town, standing, other)
            self.assertIsNone(alike_wrong(town, standing, other, told))
            if told[0] == "apart":
                words = sorted(come(town, there, told[1])[0] for there in (standing, other))
                self.assertEqual(words, ["barred", "row"])
                seen += 1
        self.assertGreater(seen, 30)

    def test_wishes_by_ways_and_counts(self):
        for dice, town, standing in itertools.chain(poor_cases(100, 156), long_cases(4, 156)):
            wishes = wished_in(dice, town, standing)
            told = granted(town, standing, wishes)
            self.assertIsNone(granted_wrong(town, standing, wishes, told))
            homes = left(town, standing, wishes)
            self.assertEqual(all(homes.values()), told[0] == "granted")
            if told[0] == "granted":
                self.assertIsNone(come_wrong(town, standing, told[1], come(town, standing, told[1])))
                self.assertIsNone(granted_wrong(town, standing, homes, told))
                self.assertEqual(left(town, standing, homes), homes)
            else:
                walls, fences = told[1]
                for hand, fenced in fences:
                    self.assertIsNone(fence_wrong(town, standing, hand, (walls, fenced)))
            one = {hand: [home] for hand, (home, *_) in wishes.items()}
            can = granted(town, standing, one)[0] == "granted"
            self.assertEqual(can, count(town, standing, given={hand: home for hand, (home,) in one.items()}) > 0)

    def test_one_event_by_a_calendar_of_one(self):
        seen = {"led": 0, "closed": 0}
        for dice, town, standing in poor_cases(200, 157):
            event = some_event(dice, town, wealths(town, standing))
            behind, wealth = naive_behind(town, wealths(town, standing), event)
            for stands in dice.sample(found := all_placings(behind, wealth), min(3, len(found))):
                one, calendar = through(town, standing, event, stands), led(town, standing, [event], stands)
                self.assertIsNone(through_wrong(town, standing, event, stands, one))
                self.assertEqual((one[0] == "through"), (calendar[0] == "led"))
                if one[0] == "through":
                    self.assertIsNone(led_wrong(town, standing, [event], stands, ("led", [one[2]])))
                    (midst,) = calendar[1]
                    row = come(town, standing, midst)[1]
                    there, here = struck(town, placed(town, standing, midst), event)
                    thing = ("through", row, midst, come(there, here, stands)[1])
                    self.assertIsNone(through_wrong(town, standing, event, stands, thing))
                seen[calendar[0]] += 1
        self.assertGreater(min(seen.values()), 50)

    def test_gifts_by_events(self):
        seen = 0
        for dice, town, standing in poor_cases(150, 158):
            hands = list(wealths(town, standing))
            for hand, other in itertools.product(hands, hands):
                home = dice.choice(town[0])[0]
                told = least_grant(town, standing, hand, other, home)
                papers = both_papers(town, standing, hand, other, home)
                if told[0] == "least" and told[1] > 0:
                    there, here = struck(town, standing, ("grant", hand, told[1]))
                    self.assertIsNone(bring_wrong(there, here, other, home, papers[0]))
                    self.assertEqual(bring(town, standing, other, home)[0], "barred")
                    seen += 1
        self.assertGreater(seen, 100)

    def test_what_was_told_may_be_handed_in(self):
        for dice, town, standing in poor_cases(100, 159):
            event = some_event(dice, town, wealths(town, standing))
            try:
                town, standing = struck(town, standing, event)
            except (Short, Taken):
                continue
            self.assertIsNone(town_wrong(town))
            self.assertIsNone(standing_wrong(town, standing))
            self.assertEqual(in_lot(town, standing, stands_of(town, standing)), True)


def renamed(dice, town, standing, event):
    """The town, the standing and the event with new names, homes and roads in another order, and both maps of names."""
    order = list(range(len(town[0])))
    dice.shuffle(order)
    home = {name: f"q{k}" for k, (name, _) in enumerate(town[0])}
    hand = {name: f"z{9 - k}" for k, name in enumerate(sorted({*wealths(town, standing), "abe", "gus", "zoe"}))}
    homes = tuple((home[town[0][k][0]], town[0][k][1]) for k in order)
    roads = [dice.choice([(home[a], home[b]), (home[b], home[a])]) for a, b in town[1]]
    dice.shuffle(roads)
    there = tuple((hand[standing[k][0]], standing[k][1]) if standing[k] else () for k in order)
    if event[0] == "worths":
        other = ("worths", tuple(event[1][k] for k in order))
    elif event[0] in ("road", "bar"):
        other = (event[0], *(home[name] for name in event[1:]))
    elif event[0] == "comes":
        other = ("comes", hand[event[1]], home[event[2]], event[3])
    else:
        other = (event[0], *(hand.get(part, part) for part in event[1:]))
    return (homes, tuple(roads)), there, other, home, hand, order


class NewNames(unittest.TestCase):
    def test_new_names_and_another_order_change_only_names(self):
        for dice, town, standing in itertools.chain(poor_cases(60, 160), random_cases(10, 160)):
            event = some_event(dice, town, wealths(town, standing))
            town2, standing2, event2, home, hand, order = renamed(dice, town, standing, event)

            def homes(names):
                return sorted(home[name] for name in names)

            wanted = sorted((homes(names), word) for names, word in rooms(town, standing))
            self.assertEqual(sorted((sorted(names), word) for names, word in rooms(town2, standing2)), wanted)
            self.assertEqual(count(town2, standing2), count(town, standing))
            self.assertEqual(len(roads_wanted(town2, standing2)), len(roads_wanted(town, standing)))
            self.assertEqual(len(may(town2, standing2)), len(may(town, standing)))
            wishes = wished_in(dice, town, standing)
            wishes2 = {hand[who]: [home[name] for name in names] for who, names in wishes.items()}
            self.assertEqual(granted(town2, standing2, wishes2)[0], granted(town, standing, wishes)[0])
            told = {hand[who]: homes(names) for who, names in left(town, standing, wishes).items()}
            self.assertEqual({who: sorted(names) for who, names in left(town2, standing2, wishes2).items()}, told)
            for who in wealths(town, standing):
                there = hand[who]
                for ask in (mean, loose, band):
                    self.assertEqual(ask(town2, standing2, there), ask(town, standing, who))
                self.assertEqual(sorted(room_of(town2, standing2, there)), homes(room_of(town, standing, who)))
                for name, _ in town[0]:
                    self.assertEqual(share(town2, standing2, there, home[name]), share(town, standing, who, name))
                    told = bring(town, standing, who, name)[0]
                    self.assertEqual(bring(town2, standing2, there, home[name])[0], told)
                    for other in wealths(town, standing):
                        told = least_grant(town, standing, other, who, name)
                        self.assertEqual(least_grant(town2, standing2, hand[other], there, home[name]), told)
                    if told[0] == "row":
                        told = sorted(hand[other] for other in needed(town, standing, who, name))
                        self.assertEqual(needed(town2, standing2, there, home[name]), told)
            behind, wealth = naive_behind(town, wealths(town, standing), event)
            for stands in all_placings(behind, wealth)[:6]:
                stands2 = tuple(hand[stands[k]] if stands[k] else "" for k in order)
                told = through(town, standing, event, stands)[0]
                self.assertEqual(through(town2, standing2, event2, stands2)[0], told)
                told = led(town, standing, [event], stands)[0]
                self.assertEqual(led(town2, standing2, [event2], stands2)[0], told)
            told = [len(lots) for lots in lots_behind(town, standing, [event])]
            self.assertEqual([len(lots) for lots in lots_behind(town2, standing2, [event2])], told)


class SideBySide(unittest.TestCase):
    def both(self, one, other):
        """Two towns with their standings as one, with names of their own."""
        (homes, roads), standing = one
        (homes2, roads2), standing2 = other
        homes2 = tuple((name + "x", worth) for name, worth in homes2)
        roads2 = tuple((near + "x", far + "x") for near, far in roads2)
        standing2 = tuple((there[0] + "x", there[1]) if there else () for there in standing2)
        return (homes + homes2, roads + roads2), standing + standing2

    def test_two_towns_are_told_as_each_alone(self):
        cases = list(itertools.chain(poor_cases(40, 161), long_cases(3, 161)))
        for (dice, town, standing), (_, town2, standing2) in zip(cases, cases[1:]):
            if len(town[0]) + len(town2[0]) > 40:
                continue
            whole, all_there = self.both((town, standing), (town2, standing2))
            self.assertEqual(count(whole, all_there), count(town, standing) * count(town2, standing2))
            wanted = len(roads_wanted(town, standing)) + len(roads_wanted(town2, standing2))
            self.assertEqual(len(roads_wanted(whole, all_there)), wanted)
            self.assertEqual(stripped(whole, all_there)[:len(standing)], stripped(town, standing))
            self.assertEqual(first(whole, all_there)[:len(standing)], first(town, standing))
            wishes = wished_in(dice, town, standing)
            told = granted(town, standing, wishes)
            self.assertEqual(granted(whole, all_there, wishes)[0], told[0])
            if told[0] == "granted":
                homes = left(whole, all_there, wishes)
                self.assertEqual({hand: homes[hand] for hand in wealths(town, standing)}, left(town, standing, wishes))
            for hand in wealths(town, standing):
                for ask in (room_of, mean, loose, band):
                    self.assertEqual(ask(whole, all_there, hand), ask(town, standing, hand))
                for name, _ in dice.sample(town[0], min(4, len(town[0]))):
                    self.assertEqual(share(whole, all_there, hand, name), share(town, standing, hand, name))
                    self.assertEqual(least_grant(whole, all_there, hand, hand, name),
                                     least_grant(town, standing, hand, hand, name))
                    if name in room_of(town, standing, hand):
                        self.assertEqual(needed(whole, all_there, hand, name), needed(town, standing, hand, name))
                for name, _ in town2[0]:
                    self.assertEqual(share(whole, all_there, hand, name + "x"), (0, 1))

    def test_an_event_in_one_of_them(self):
        for dice, town, standing in poor_cases(60, 162):
            event = some_event(dice, town, wealths(town, standing), ("fee", "grant", "gift", "road", "bar", "goes"))
            if len(town[0]) > 4 or event[0] == "worths":
                continue
            other = ((("a", 0), ("b", 1)), (("a", "b"),)), (("x", 1), ())
            whole, all_there = self.both((town, standing), other)
            told = lots_behind(town, standing, [event])
            self.assertEqual(lots_behind(whole, all_there, [event]),
                             [[stands + ("xx", "") for stands in lots] for lots in told])
            behind, wealth = naive_behind(town, wealths(town, standing), event)
            for stands in all_placings(behind, wealth)[:4]:
                told = through(town, standing, event, stands)
                for there in (("xx", ""), ("", "xx")):
                    self.assertEqual(through(whole, all_there, event, stands + there)[0], told[0])


class Refusals(unittest.TestCase):
    def test_each_stands_straight_under_town_error(self):
        for word, thing in vars(errors).items():
            if inspect.isclass(thing) and thing is not errors.TownError:
                self.assertEqual(thing.__bases__, (errors.TownError,), word)
                self.assertTrue(all(field is None for field in vars(thing()).values()))

    def test_nothing_is_caught_from_python(self):
        # What is refused is refused by a class of errors.py, so none of Python's own is raised by name.
        for file in pathlib.Path(errors.__file__).parent.glob("*.py"):
            for node in ast.walk(ast.parse(file.read_text(encoding="utf-8"))):
                if isinstance(node, ast.Raise):
                    self.assertTrue(hasattr(errors, node.exc.func.id), file)


class GreatTowns(unittest.TestCase):
    def test_all_of_the_greatest_town(self):
        town, standing = greatest_case()
        dice = random.Random(163)
        hands = list(wealths(town, standing))
        room = {hand: room_of(town, standing, hand) for hand in hands}
        stands = shuffled_in_rooms(dice, town, room)
        self.assertEqual(nth(town, standing, number(town, standing, stands)), stands)
        names = [name for name, _ in town[0]]
        for hand in dice.sample(hands, 3):
            home = names[stands.index(hand)]
            self.assertIsNone(bring_wrong(town, standing, hand, home, bring(town, standing, hand, home)))
            self.assertNotIn(hand, needed(town, standing, hand, home))
            self.assertEqual(least_grant(town, standing, hand, hand, home), ("least", 0))
        event = ("worths", tuple(worth - k % 3 for k, (_, worth) in enumerate(town[0])))
        told = through(town, standing, event, stands)
        self.assertEqual(told[0], "through")
        self.assertIsNone(through_wrong(town, standing, event, stands, told))
        self.assertEqual(hands_of(told[2]), sorted(hands))

    def test_no_answer_goes_through_standings(self):
        # So great a lot could not be gone through.
        homes = tuple((f"h{k}", 0) for k in range(40))
        town = (homes, tuple((f"h{k}", f"h{(k + 1) % 40}") for k in range(40)))
        standing = tuple((f"p{k}", 1) for k in range(40))
        stands = tuple(f"p{39 - k}" for k in range(40))
        self.assertGreater(count(town, standing), 10 ** 40)
        self.assertIsNone(come_wrong(town, standing, stands, come(town, standing, stands)))
        self.assertEqual(granted(town, standing, {f"p{k}": [f"h{39 - k}"] for k in range(40)}), ("granted", stands))
        self.assertEqual(left(town, standing, {"p0": ["h1"]})["p1"], [f"h{k}" for k in range(40) if k != 1])
        told = through(town, standing, ("fee", "p0", 1), stands)
        self.assertIsNone(through_wrong(town, standing, ("fee", "p0", 1), stands, told))
        crowd = granted(town, standing, {f"p{k}": [f"h{j}" for j in range(5)] for k in range(6)})
        self.assertEqual((crowd[0], len(crowd[1][1])), ("crowd", 6))
        self.assertEqual(len(lot((homes[:3], town[1][:2]), standing[:3])), 6)


if __name__ == "__main__":
    unittest.main()
