"""Walls and fences: [20], [21], [7], and of them [1], [2] and [3]."""

import copy
import itertools
import unittest

from samples import (CORNER, CORNERED, NO_STANDINGS, NO_TOWNS, ODD, STANDING, TOWN, changed_paper, greatest_case,
                     lists_in, long_cases, lot, poor_cases, random_cases, wealth_of, with_thing)
from worthrooms.errors import NoHand, NoStanding, NoTown
from worthrooms.rooms import room_of, rooms
from worthrooms.towns import wealths
from worthrooms.walls import fence, fence_wrong

# A line of homes: a cheap one, a dear one, cheap ones with a poor and a rich hand, and one that is empty.
LINE = (
    (("a", 0), ("b", 5), ("c", 0), ("d", 2), ("e", 9), ("f", 0)),
    (("a", "b"), ("c", "b"), ("c", "d"), ("d", "e"), ("f", "e")),
)
STOOD = (("ann", 4), ("bob", 1), ("cid", 1), ("dan", 0), ("eve", 0), ())


def home_lists(town, thing, least):
    """Whether the thing is a list of unlike names of homes, so many at least."""
    names = [name for name, _ in town[0]]
    if not isinstance(thing, list) or len(thing) < least:
        return False
    return all(isinstance(name, str) and name in names for name in thing) and len(set(thing)) == len(thing)


def judged(town, standing, hand, thing):
    """What fence_wrong should tell, by the words of 20 and 21."""
    if not isinstance(thing, tuple) or len(thing) != 2 or not isinstance(thing[0], list):
        return ("paper",)
    walls, fenced = thing
    if not all(home_lists(town, wall, 1) for wall in walls) or not home_lists(town, fenced, 0):
        return ("paper",)
    worths = dict(town[0])
    wealth = wealth_of(town, standing)
    here = {name: there[0] if there else "" for (name, _), there in zip(town[0], standing)}

    def out(names, ahead, means):
        for road in town[1]:
            for near, far in (road, road[::-1]):
                if near in names and far not in names:
                    if not any(far in wall and near not in wall for wall in ahead) and not worths[far] > means:
                        return (near, far)
        return ()

    for k, wall in enumerate(walls):
        found = out(wall, walls[:k], max(wealth[here[name]] for name in wall))
        if found:
            return ("wall", k, *found)
    if not any(here[name] == hand for name in fenced):
        return ("home",)
    found = out(fenced, walls, wealth[hand])
    return ("fence", *found) if found else None


class Fence(unittest.TestCase):
    def test_of_the_sample(self):
        self.assertEqual(fence(TOWN, STANDING, "eve"), ([["low2"]], ["low", "mid"]))
        self.assertEqual(fence(TOWN, STANDING, "bob"), ([["low2"]], ["low", "mid", "high"]))
        self.assertEqual(fence(TOWN, STANDING, "ann"), ([["low2"]], ["low2"]))

    def test_of_a_hand_in_a_shut_room_and_of_rich_ones_around(self):
        told = {"rich": ["west"], "pip": ["c1", "c2"], "poe": ["c1", "c2"], "ed": ["east", "yard"],
                "hal": ["east", "yard", "hall"]}
        for hand, room in told.items():
            self.assertEqual(fence(CORNER, CORNERED, hand), ([["c1", "c2"]], room))

    def test_no_wall_where_no_room_is_shut(self):
        town = ((("a", 0), ("b", 5)), (("a", "b"),))
        self.assertEqual(fence(town, (("x", 5), ("y", 0)), "y"), ([], ["a", "b"]))
        self.assertEqual(fence(town, (("x", 1), ()), "x"), ([["a"]], ["a"]))
        self.assertEqual(fence(((("a", 3),), ()), (("x", 0),), "x"), ([], ["a"]))

    def test_walls_by_level_then_by_places(self):
        homes = (("g", 2), ("f", 1), ("e", 0), ("d", 1), ("c", 0), ("b", 3), ("a", 0))
        town = (homes, (("e", "f"), ("c", "d")))
        standing = (("x", 0), ("y", 0), ("z", 1), ("w", 0), ("v", 0), ("u", 0), ("t", 2))
        walls = [["c"], ["f", "e"], ["d"], ["g"], ["a"]]
        for hand, room in {"x": ["g"], "v": ["c"], "z": ["f", "e"], "u": ["b"]}.items():
            self.assertEqual(fence(town, standing, hand), (walls, room))

    def test_of_line(self):
        walls = [["c"], ["a"], ["d"], ["b"]]
        for hand, fenced in {"ann": ["a"], "bob": ["b"], "cid": ["c"], "dan": ["d"], "eve": ["e", "f"]}.items():
            self.assertEqual(fence(LINE, STOOD, hand), (walls, fenced))

    def test_all_shut_rooms_and_the_room_of_the_hand(self):
        for _, town, standing in itertools.chain(random_cases(100, 21), poor_cases(300, 21), long_cases(9, 21)):
            shut = [names for names, word in rooms(town, standing) if word == "shut"]
            for hand in wealths(town, standing):
                walls, fenced = fence(town, standing, hand)
                self.assertEqual(sorted(walls), sorted(shut))
                self.assertEqual(fenced, room_of(town, standing, hand))

    def test_it_is_right(self):
        for _, town, standing in itertools.chain(random_cases(100, 22), poor_cases(300, 22), long_cases(9, 22)):
            for hand in wealths(town, standing):
                told = fence(town, standing, hand)
                self.assertIsNone(fence_wrong(town, standing, hand, told))
                self.assertIsNone(judged(town, standing, hand, told))

    def test_what_was_told_is_the_askers_own(self):
        for hand in ("pip", "rich"):
            told = fence(CORNER, CORNERED, hand)
            ahead = copy.deepcopy(told)
            lists = lists_in(told)
            self.assertEqual(len({id(found) for found in lists}), len(lists))
            for found in lists:
                found.clear()
            self.assertEqual(fence(CORNER, CORNERED, hand), ahead)

    def test_by_name(self):
        self.assertEqual(fence(hand="ann", town=TOWN, standing=STANDING), ([["low2"]], ["low2"]))


class FenceWrong(unittest.TestCase):
    def check(self, hand, thing, fault):
        self.assertEqual(fence_wrong(LINE, STOOD, hand, thing), fault, thing)
        self.assertEqual(judged(LINE, STOOD, hand, thing), fault, thing)

    def test_right_ones(self):
        self.check("ann", ([], ["a"]), None)
        self.check("ann", ([], ["f", "e", "d", "c", "b", "a"]), None)
        self.check("ann", ([["f", "a", "b", "c", "d", "e"]], ["a"]), None)
        self.check("cid", ([["c"], ["d"]], ["c"]), None)
        self.check("cid", ([["a"], ["c"], ["c"], ["a"]], ["a", "c"]), None)
        self.check("dan", ([["c"]], ["d"]), None)
        self.check("bob", ([["c"], ["a"]], ["b"]), None)
        self.check("eve", ([["c"], ["d"]], ["f", "e"]), None)

    def test_no_tuple_of_two_lists(self):
        ill = [[[], ["a"]], ([], ["a"], []), ([],), ((), ["a"]), ([], ("a",)), ([], {"a": 1}), ({}, ["a"])]
        for thing in ODD + ill:
            if thing != ([], []):
                self.check("ann", thing, ("paper",))

    def test_walls_of_other_forms(self):
        ill = [thing for thing in ODD if thing not in (["a"], ["a", "b"])]
        ill += [("a",), "a", ["a", "a"], ["a", "b", "a"], ["a", "z"], ["A"], ["ann"], [["a"]], ["a", None], [("a",)]]
        ill += [[{}], []]
        for wall in ill:
            for walls in ([wall], [["c"], wall], [wall, ["c"]], [["b"], wall, ["c"]]):
                self.check("ann", (walls, ["a"]), ("paper",))

    def test_fences_of_other_forms(self):
        ill = [thing for thing in ODD if thing not in (["a"], ["a", "b"], [])]
        ill += [("a",), "a", ["a", "a"], ["b", "a", "b"], ["a", "z"], ["A"], ["ann"], [["a"]], ["a", None], [("a",)]]
        ill += [[{}], [""]]
        for fenced in ill:
            self.check("ann", ([], fenced), ("paper",))
            self.check("ann", ([["b"]], fenced), ("paper",))

    def test_a_road_out_of_a_wall(self):
        self.check("ann", ([["b"]], ["a"]), ("wall", 0, "b", "a"))
        self.check("ann", ([["a"], ["b"]], ["a"]), ("wall", 1, "b", "c"))
        self.check("ann", ([["c"], ["b"]], ["a"]), ("wall", 1, "b", "a"))
        self.check("ann", ([["c", "a", "b"]], ["a"]), ("wall", 0, "c", "d"))
        self.check("ann", ([["d"]], ["a"]), ("wall", 0, "d", "c"))
        self.check("ann", ([["c"], ["d"], ["e"]], ["a"]), ("wall", 2, "e", "f"))

    def test_the_near_end_of_a_road_told_either_way_about(self):
        self.check("ann", ([["c"], ["a"], ["b", "d", "e"]], ["a"]), ("wall", 2, "e", "f"))
        self.check("ann", ([["f"]], ["a"]), ("wall", 0, "f", "e"))

    def test_the_first_of_several_roads_out(self):
        self.check("ann", ([["b", "e"]], ["a"]), ("wall", 0, "b", "a"))
        self.check("ann", ([["e", "b"], ["d"]], ["a"]), ("wall", 0, "b", "a"))
        self.check("ann", ([["c"], ["e", "b"], ["d"]], ["a"]), ("wall", 1, "b", "a"))
        self.check("bob", ([], ["b", "e"]), ("fence", "b", "a"))
        self.check("bob", ([["a"]], ["e", "b"]), ("fence", "b", "c"))

    def test_what_an_empty_home_in_a_wall_can_afford(self):
        self.check("ann", ([["f"]], ["a"]), ("wall", 0, "f", "e"))
        self.check("ann", ([["a", "f"]], ["a"]), ("wall", 0, "a", "b"))
        self.check("ann", ([["c"], ["d"], ["f", "e"]], ["a"]), None)

    def test_what_the_richest_of_a_wall_can_afford(self):
        for coins, fault in ((4, None), (5, ("wall", 0, "a", "b"))):
            standing = with_thing(STOOD, 0, ("ann", coins))
            for wall in (["a"], ["a", "c", "d"], ["d", "c", "a"]):
                self.assertEqual(fence_wrong(LINE, standing, "ann", ([wall], ["a"])), fault)

    def test_barred_by_a_wall_ahead_alone(self):
        self.check("ann", ([["d"], ["c"]], ["a"]), ("wall", 0, "d", "c"))
        self.check("ann", ([["c"], ["d"]], ["a"]), None)
        self.check("ann", ([["d", "c"]], ["a"]), None)

    def test_a_wall_bars_no_road_that_leads_out_of_it(self):
        self.check("dan", ([["c", "d"]], ["d"]), ("fence", "d", "c"))
        self.check("dan", ([["c", "d"], ["c"]], ["d"]), None)
        self.check("dan", ([["c", "d"], ["d"]], ["d"]), ("wall", 1, "d", "c"))
        self.check("bob", ([["d", "a", "b", "c"]], ["b"]), ("fence", "b", "a"))
        self.check("bob", ([["c"], ["d", "a", "b", "c"]], ["b"]), ("fence", "b", "a"))
        self.check("bob", ([["c"], ["a"], ["d", "a", "b", "c"]], ["b"]), None)

    def test_the_home_of_the_hand(self):
        self.check("ann", ([], []), ("home",))
        self.check("ann", ([["c"]], ["c"]), ("home",))
        self.check("ann", ([], ["b"]), ("home",))
        self.check("bob", ([["a"], ["c"]], ["a", "c"]), ("home",))

    def test_a_road_out_of_the_fence(self):
        self.check("bob", ([], ["b"]), ("fence", "b", "a"))
        self.check("bob", ([["a"]], ["b"]), ("fence", "b", "c"))
        self.check("dan", ([], ["d"]), ("fence", "d", "c"))
        self.check("eve", ([["c"], ["d"]], ["e"]), ("fence", "e", "f"))

    def test_the_worth_of_the_far_end(self):
        for coins in (3, 4, 5, 6):
            standing = with_thing(STOOD, 0, ("ann", coins))
            fault = ("fence", "a", "b") if coins >= 5 else None
            self.assertEqual(fence_wrong(LINE, standing, "ann", ([], ["a"])), fault)
        standing = with_thing(with_thing(STOOD, 0, ("ann", 99)), 1, ("bob", 3))
        self.assertEqual(fence_wrong(LINE, standing, "bob", ([["c"]], ["a", "b"])), None)
        self.assertEqual(fence_wrong(LINE, standing, "ann", ([["c"]], ["a"])), ("fence", "a", "b"))

    def test_the_order_of_the_faults(self):
        self.check("ann", ([["b"], []], []), ("paper",))
        self.check("ann", ([["b"]], ["b", "b"]), ("paper",))
        self.check("ann", ([["c"], ["b"], ["f"]], []), ("wall", 1, "b", "a"))
        self.check("bob", ([["b"]], ["a"]), ("wall", 0, "b", "a"))
        self.check("bob", ([["a"]], ["d", "e"]), ("home",))

    def test_changed_papers_on_small_towns(self):
        seen = {}
        for dice, town, standing in itertools.chain(random_cases(300, 23), poor_cases(900, 23)):
            names = [name for name, _ in town[0]]
            for hand in wealths(town, standing):
                paper = fence(town, standing, hand)
                for _ in range(4):
                    thing = changed_paper(dice, names, paper)
                    fault = judged(town, standing, hand, thing)
                    self.assertEqual(fence_wrong(town, standing, hand, thing), fault)
                    word = fault[0] if fault else None
                    seen[word] = seen.get(word, 0) + 1
        self.assertEqual(set(seen), {None, "wall", "home", "fence"})
        self.assertGreater(min(seen.values()), 300)

    def test_nobody_leaves_a_right_fence_or_goes_through_a_right_wall(self):
        right = 0
        for dice, town, standing in itertools.chain(random_cases(60, 24), poor_cases(200, 24)):
            names = [name for name, _ in town[0]]
            all_stands = lot(town, standing)
            here = [there[0] if there else "" for there in standing]
            for hand in wealths(town, standing):
                for _ in range(4):
                    thing = changed_paper(dice, names, fence(town, standing, hand))
                    if fence_wrong(town, standing, hand, thing) is not None:
                        continue
                    right += 1
                    for stands in all_stands:
                        self.assertIn(names[stands.index(hand)], thing[1])
                        for wall in thing[0]:
                            inside = sorted(stands[names.index(name)] for name in wall)
                            self.assertEqual(inside, sorted(here[names.index(name)] for name in wall))
        self.assertGreater(right, 200)

    def test_on_great_towns(self):
        for dice, town, standing in long_cases(9, 25):
            names = [name for name, _ in town[0]]
            for hand in list(wealths(town, standing))[:8]:
                thing = changed_paper(dice, names, fence(town, standing, hand))
                self.assertEqual(fence_wrong(town, standing, hand, thing), judged(town, standing, hand, thing))
        town, standing = greatest_case()
        for hand in wealths(town, standing):
            told = fence(town, standing, hand)
            self.assertEqual((fence_wrong(town, standing, hand, told), judged(town, standing, hand, told)), (None, None))

    def test_many_walls(self):
        names = [name for name, _ in LINE[0]]
        self.check("ann", ([list(names) for _ in range(3000)], ["a"]), None)

    def test_what_is_handed_in_stays(self):
        for thing in [([["c"], ["d"]], ["c", "b"]), ([["b", "a"], [[]]], [{}]), [[["c"]], ["c"]]]:
            ahead = copy.deepcopy(thing)
            fence_wrong(LINE, STOOD, "cid", thing)
            self.assertEqual(thing, ahead)

    def test_one_list_at_several_places_is_no_fault(self):
        wall = ["c"]
        self.check("cid", ([wall, wall], wall), None)

    def test_by_name(self):
        self.assertEqual(fence_wrong(thing=([], []), hand="ann", standing=STOOD, town=LINE), ("home",))


class Refusals(unittest.TestCase):
    CALLS = [fence]
    CALLS += [lambda *told, thing=thing: fence_wrong(*told, thing) for thing in (None, ([], []))]

    def test_what_is_no_town_ahead_of_all(self):
        rest = list(itertools.product((STANDING, None), ("eve", 0)))
        for call, (town, wrong), told in itertools.product(self.CALLS, NO_TOWNS, rest):
            with self.assertRaises(NoTown) as caught:
                call(town, *told)
            self.assertEqual(caught.exception.wrong, wrong)

    def test_what_is_no_standing_ahead_of_the_rest(self):
        for call, (standing, wrong), hand in itertools.product(self.CALLS, NO_STANDINGS, ("eve", 0)):
            with self.assertRaises(NoStanding) as caught:
                call(TOWN, standing, hand)
            self.assertEqual(caught.exception.wrong, wrong)

    def test_what_is_no_hand_ahead_of_the_paper(self):
        ill = [thing for thing in ODD if thing != "eve"] + ["low", "Eve", ("eve", 5), ["eve"]]
        for call, hand in itertools.product(self.CALLS, ill):
            with self.assertRaises(NoHand) as caught:
                call(TOWN, STANDING, hand)
            self.assertIs(caught.exception.name, hand)


if __name__ == "__main__":
    unittest.main()
