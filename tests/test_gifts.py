"""Gifts: [60], [7], and of them [1], [2] and [3]."""

import itertools
import unittest

from samples import (CORNER, CORNERED, NO_HANDS, STANDING, TOWN, check_no_home, check_own, check_refused, greatest_case,
                     long_cases, lot, poor_cases, random_cases, with_coins)
from worthrooms.errors import NoHand
from worthrooms.gifts import both_papers, least_grant
from worthrooms.rooms import room_of
from worthrooms.towns import wealths
from worthrooms.ways import bring, bring_wrong


def more(standing, hand, coins):
    """The standing with so many coins more for the hand."""
    here = {there[0]: there[1] for there in standing if there}
    return with_coins(standing, {hand: here[hand] + coins})


def dearest(town):
    return max(worth for _, worth in town[0])


class Gifts(unittest.TestCase):
    def check(self, town, standing, hand, other, home, least):
        """What both functions tell, where the least number of coins is known, None where there is none."""
        told = least_grant(town, standing, hand, other, home)
        self.assertEqual(told, ("never",) if least is None else ("least", least))
        papers = both_papers(town, standing, hand, other, home)
        self.assertEqual((type(papers), len(papers)), (tuple, 2))
        enough = max(0, dearest(town) - wealths(town, standing)[hand]) if least is None else least
        there = more(standing, hand, enough)
        self.assertEqual(papers[0], bring(town, there, other, home))
        self.assertEqual(papers[0][0], "barred" if least is None else "row")
        self.assertIsNone(bring_wrong(town, there, other, home, papers[0]))
        if not least:
            self.assertIsNone(papers[1])
            return
        there = more(standing, hand, least - 1)
        self.assertEqual(papers[1], bring(town, there, other, home))
        self.assertEqual(papers[1][0], "barred")
        self.assertIsNone(bring_wrong(town, there, other, home, papers[1]))

    def test_for_itself(self):
        for home, least in {"low": 0, "mid": 0, "high": 7, "low2": None, "isle": None}.items():
            self.check(TOWN, STANDING, "eve", "eve", home, least)
        self.check(TOWN, STANDING, "ann", "ann", "high", 1)
        self.check(TOWN, STANDING, "ann", "ann", "low", 1)
        self.check(TOWN, STANDING, "bob", "bob", "low2", None)
        self.check(TOWN, STANDING, "bob", "bob", "high", 0)

    def test_for_another_one(self):
        # With one coin more ann opens its home to those who afford the dear one beside it.
        self.check(TOWN, STANDING, "ann", "bob", "low2", 1)
        self.check(TOWN, STANDING, "ann", "eve", "low2", None)
        self.check(TOWN, STANDING, "bob", "ann", "high", None)
        self.check(TOWN, STANDING, "ann", "bob", "high", 0)
        self.check(CORNER, CORNERED, "pip", "rich", "c1", 6)
        self.check(CORNER, CORNERED, "poe", "rich", "east", 7)
        self.check(CORNER, CORNERED, "rich", "pip", "west", None)

    def test_its_own_home(self):
        for hand, other, home in [("eve", "eve", "low"), ("eve", "bob", "mid"), ("bob", "ann", "low2")]:
            self.check(TOWN, STANDING, hand, other, home, 0)

    def test_never_of_who_is_richer_than_all_homes(self):
        standing = with_coins(STANDING, {"bob": 99})
        self.check(TOWN, standing, "bob", "ann", "high", None)
        self.check(TOWN, standing, "bob", "bob", "isle", None)
        told = both_papers(TOWN, standing, "bob", "ann", "high")
        self.assertEqual(told, (bring(TOWN, standing, "ann", "high"), None))

    def test_by_all_numbers_on_small_towns(self):
        seen = {"zero": 0, "more": 0, "never": 0, "other": 0}
        for dice, town, standing in itertools.chain(random_cases(15, 130), poor_cases(60, 130)):
            hands = sorted(wealths(town, standing))
            names = [name for name, _ in town[0]]
            for hand in hands:
                lots = [lot(town, more(standing, hand, c)) for c in range(dearest(town) + 1)]
                for other, place in itertools.product(hands, range(len(names))):
                    can = [any(stands[place] == other for stands in found) for found in lots]
                    self.assertEqual(can, sorted(can))
                    least = can.index(True) if True in can else None
                    self.check(town, standing, hand, other, names[place], least)
                    seen["never" if least is None else "more" if least else "zero"] += 1
                    seen["other"] += bool(least and hand != other)
        self.assertGreater(min(seen.values()), 50)

    def test_in_great_towns(self):
        seen = {"least": 0, "never": 0}
        for dice, town, standing in itertools.chain(long_cases(6, 131), long_cases(3, 132, bare=True)):
            hands = sorted(wealths(town, standing))
            for _ in range(4):
                hand, other = dice.choice(hands), dice.choice(hands)
                home = dice.choice(town[0])[0]
                told = least_grant(town, standing, hand, other, home)
                seen[told[0]] += 1
                least = None if told == ("never",) else told[1]
                self.check(town, standing, hand, other, home, least)
                if least:
                    self.assertNotIn(home, room_of(town, more(standing, hand, least - 1), other))
                if least is None:
                    self.assertNotIn(home, room_of(town, more(standing, hand, 10 ** 9), other))
                else:
                    self.assertIn(home, room_of(town, more(standing, hand, least), other))
        self.assertGreater(min(seen.values()), 5)

    def test_in_the_greatest_town(self):
        town, standing = greatest_case()
        self.check(town, standing, "p1", "p1", "h38", 16)
        self.check(town, standing, "p1", "p1", "h39", 17)
        self.check(town, standing, "p39", "p1", "h39", None)

    def test_numbers_are_ints(self):
        for hand, home in (("eve", "low"), ("eve", "high")):
            self.assertIs(type(least_grant(TOWN, STANDING, hand, hand, home)[1]), int)

    def test_what_was_told_is_the_askers_own(self):
        for hand, other, home in [("eve", "eve", "high"), ("ann", "bob", "low2"), ("bob", "ann", "high")]:
            check_own(self, lambda: both_papers(TOWN, STANDING, hand, other, home))

    def test_by_name(self):
        told = least_grant(home="high", other="eve", hand="eve", standing=STANDING, town=TOWN)
        self.assertEqual(told, ("least", 7))
        told = both_papers(home="low", other="bob", hand="eve", standing=STANDING, town=TOWN)
        self.assertIsNone(told[1])


class Refusals(unittest.TestCase):
    CALLS = [lambda *told, call=call, rest=rest: call(*told, *rest) for call in (least_grant, both_papers)
             for rest in itertools.product(("eve", None), ("bob", None), ("low", None))]

    def test_what_is_no_town_or_standing_ahead_of_all(self):
        check_refused(self, self.CALLS)

    def test_what_is_no_hand_ahead_of_the_home(self):
        for call, hand, home in itertools.product((least_grant, both_papers), NO_HANDS, ("low", "nobody", None)):
            for rest in ((hand, "eve"), (hand, "cid"), (hand, None), ("eve", hand)):
                with self.assertRaises(NoHand) as caught:
                    call(TOWN, STANDING, *rest, home)
                self.assertIs(caught.exception.name, hand)

    def test_what_is_no_home(self):
        for call in (least_grant, both_papers):
            check_no_home(self, call, "eve", "bob")
            check_no_home(self, call, "eve", "eve")


if __name__ == "__main__":
    unittest.main()
