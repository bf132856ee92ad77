"""Towns, standings and odd things that several tests use."""

import random

# A road of homes from cheap to dear and back, a home beside it, and two homes on their own.
TOWN = (
    (("low", 0), ("mid", 5), ("high", 12), ("low2", 0), ("isle", 3), ("isle2", 3)),
    (("low", "mid"), ("high", "mid"), ("low2", "high"), ("isle", "isle2")),
)
STANDING = (("eve", 5), ("bob", 7), (), ("ann", 11), (), ())
STANDS = ("eve", "bob", "", "ann", "", "")
WEALTHS = {"ann": 11, "bob": 12, "eve": 5}

NAMES = ["a", "z", "a1", "zz9", "abcdefgh", "a2345678"]
NO_NAMES = ["", "abcdefghi", "1a", "9", "A", "aB", "a b", "a_b", "a-", "a\n", "\u00e9", "a\u0663", "a\u00b2", " a"]
NO_WORTHS = [None, True, False, -1, -(10 ** 9), 1.0, 0.0, 2.5, float("nan"), "", "1", "a", b"", [], (), [1], (1,), {}]
NO_TUPLES = [None, True, False, 0, 1, -7, 1.5, "", "a", "ab", [], ["a", 1], ["a", "b"], [[], []], {}, {"a": 1}]
ODD = NO_TUPLES + ["low", "eve", b"ab", (), ("a",), ("a", 1), ("a", 1, 1), ("a", "b"), ((), ()), (("a", 1), ()), ([], [])]
ODD += [("low", "mid"), ("mid", "low"), ("eve", 5), ("eve", True), ("eve", -1), ("Eve", 5), (None, 0), ([], 0), ({}, {})]


def random_town(dice):
    """A town of one to six homes."""
    homes = tuple((f"h{k}", dice.choice([0, 0, 1, 3, 4, 9])) for k in range(dice.randint(1, 6)))
    roads = []
    for far in range(len(homes)):
        for near in range(far):
            if dice.random() < 0.5:
                ends = [homes[near][0], homes[far][0]]
                dice.shuffle(ends)
                roads.append(tuple(ends))
    dice.shuffle(roads)
    return (homes, tuple(roads))


def random_standing(dice, town):
    """A standing of the town with none to all homes empty."""
    hands = ["ann", "bob", "cid", "dan", "eve", "fay"]
    dice.shuffle(hands)
    return tuple((hands[k], dice.choice([0, 1, 2, 5, 9])) if dice.random() < 0.7 else () for k in range(len(town[0])))


def random_cases(many, seed):
    """So many towns with a standing each, and the dice behind them; the same ones for a seed each time."""
    dice = random.Random(seed)
    for _ in range(many):
        town = random_town(dice)
        yield dice, town, random_standing(dice, town)


def with_thing(row, k, thing):
    """The tuple with another thing at its k-th place."""
    return row[:k] + (thing,) + row[k + 1:]
