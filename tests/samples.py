"""Towns, standings and odd things that several tests use."""

import copy
import itertools
import math
import random
import re

from worthrooms.errors import NoHand, NoHome, NoStanding, NoTown

# A road of homes from cheap to dear and back, a home beside it, and two homes on their own.
TOWN = (
    (("low", 0), ("mid", 5), ("high", 12), ("low2", 0), ("isle", 3), ("isle2", 3)),
    (("low", "mid"), ("high", "mid"), ("low2", "high"), ("isle", "isle2")),
)
STANDING = (("eve", 5), ("bob", 7), (), ("ann", 11), (), ())
STANDS = ("eve", "bob", "", "ann", "", "")
WEALTHS = {"ann": 11, "bob": 12, "eve": 5}

NAMES = ["a", "z", "a1", "zz9", "abcdefgh", "a2345678"]
NO_NAMES = ["", "abcdefghi", "1a", "9", "A", "aB", "a b", "a_b", "a-", "a\n", "\u00e9", "a\u0663", "a\u00b2", " a"]
NO_WORTHS = [None, True, False, -1, -(10 ** 9), 1.0, 0.0, 2.5, float("nan"), "", "1", "a", b"", [], (), [1], (1,), {}]
NO_TUPLES = [None, True, False, 0, 1, -7, 1.5, "", "a", "ab", [], ["a", 1], ["a", "b"], [[], []], {}, {"a": 1}]
ODD = NO_TUPLES + ["low", "eve", b"ab", (), ("a",), ("a", 1), ("a", 1, 1), ("a", "b"), ((), ()), (("a", 1), ()), ([], [])]
ODD += [("low", "mid"), ("mid", "low"), ("eve", 5), ("eve", True), ("eve", -1), ("Eve", 5), (None, 0), ([], 0), ({}, {})]


def random_town(dice):
    """A town of one to six homes."""
    homes = tuple((f"h{k}", dice.choice([0, 0, 1, 3, 4, 9])) for k in range(dice.randint(1, 6)))
    roads = []
    for far in range(len(homes)):
        for near in range(far):
            if dice.random() < 0.5:
                ends = [homes[near][0], homes[far][0]]
                dice.shuffle(ends)
                roads.append(tuple(ends))
    dice.shuffle(roads)
    return (homes, tuple(roads))


def random_standing(dice, town):
    """A standing of the town with none to all homes empty."""
    hands = ["ann", "bob", "cid", "dan", "eve", "fay"]
    dice.shuffle(hands)
    return tuple((hands[k], dice.choice([0, 1, 2, 5, 9])) if dice.random() < 0.7 else () for k in range(len(town[0])))


def random_cases(many, seed):
    """So many towns with a standing each, and the dice behind them; the same ones for a seed each time."""
    dice = random.Random(seed)
    for _ in range(many):
        town = random_town(dice)
        yield dice, town, random_standing(dice, town)


def with_thing(row, k, thing):
    """The tuple with another thing at its k-th place."""
    return row[:k] + (thing,) + row[k + 1:]


# A cheap corner of poor hands between two dear homes, and a dear home of its own behind a cheap one with an empty home.
CORNER = (
    (("west", 7), ("c1", 0), ("c2", 0), ("east", 7), ("yard", 2), ("hall", 9)),
    (("west", "c1"), ("c1", "c2"), ("east", "c2"), ("yard", "east"), ("hall", "yard")),
)
CORNERED = (("rich", 50), ("pip", 1), ("poe", 0), ("ed", 0), (), ("hal", 0))

NO_TOWNS = [(None, ("town",)), (((), ()), ("town",)), (((("A", 0),), ()), ("home", 0))]
NO_TOWNS += [((TOWN[0], (("low", "low"),)), ("road", 0))]
NO_STANDINGS = [
    (None, ("standing",)), (STANDING[:5], ("standing",)), (list(STANDING), ("standing",)),
    (with_thing(STANDING, 3, ("eve", 0)), ("hand", 3)), (with_thing(STANDING, 0, ("eve", -1)), ("hand", 0)),
]


def unlike_roads(dice, homes, many):
    """So many roads of the homes at most, no two alike."""
    ends = list(itertools.combinations([name for name, _ in homes], 2))
    dice.shuffle(ends)
    return tuple(dice.choice([pair, pair[::-1]]) for pair in ends[:many])


def poor_cases(many, seed):
    """Towns of one to six homes whose hands have few coins, with a standing each, and the dice behind them."""
    dice = random.Random(seed)
    for _ in range(many):
        homes = tuple((f"h{k}", dice.choice([0, 1, 2, 3, 4])) for k in range(dice.randint(1, 6)))
        town = (homes, unlike_roads(dice, homes, dice.randint(0, len(homes) + 1)))
        hands = ["ann", "bob", "cid", "dan", "eve", "fay"]
        dice.shuffle(hands)
        gap = dice.choice([0, 0.1, 0.3, 0.7])
        coins = [dice.choice([0, 0, 0, 1, 1, 2, 3]) for _ in homes]
        yield dice, town, tuple(() if dice.random() < gap else there for there in zip(hands, coins))


def ruler(k):
    """The k-th of the worths 1 2 1 3 1 2 1 4 and so on."""
    return ((k + 1) & -(k + 1)).bit_length()


def long_cases(many, seed, bare=False):
    """Lines of 20 to 40 homes with more roads, few coins and some empty homes, and the dice behind them.

    Bare: all in a line, no home empty, and just so many coins that the whole line is one room.
    """
    dice = random.Random(seed)
    for turn in range(many):
        size = dice.randint(20, 40)
        worth = [ruler, lambda k: k // 2, lambda k: dice.randint(0, 19)][turn % 3]
        homes = tuple((f"h{k}", worth(k)) for k in range(size))
        line = tuple((f"h{k}", f"h{k + 1}") for k in range(size - 1))
        more = () if bare else unlike_roads(dice, homes, dice.randint(0, 20))
        roads = line + tuple(road for road in more if road not in line and road[::-1] not in line)
        coins = opening_coins([worth for _, worth in homes], dice)
        if not bare:
            coins = [dice.choice([least, least, least, 0, 1, 30]) for least in coins]
        standing = tuple((f"p{k}", coins[k]) if bare or dice.random() < 0.95 else () for k in range(size))
        yield dice, (homes, roads), standing


def greatest_case():
    """A town of 40 homes, 80 roads and 20 unlike worths, all one room, with a few empty homes."""
    worths = [10 ** 9 - 20 + k % 20 for k in range(40)]
    homes = tuple((f"h{k}", worth) for k, worth in enumerate(worths))
    roads = tuple((f"h{k}", f"h{(k + step) % 40}") for step in (1, 7) for k in range(40))
    standing = tuple((f"p{k}", k % 21) if k % 9 else () for k in range(40))
    return (homes, roads), standing


def opening_coins(worths, dice):
    """Coins for the hands of a line of homes with these worths, such that no room is shut, nearly as few as can be."""
    wealth = list(worths)
    for now, following in zip(sorted(set(worths)), sorted(set(worths))[1:]):
        part = []
        for place, worth in enumerate([*worths, following]):
            if worth <= now:
                part.append(place)
            elif part:
                if all(wealth[there] < following for there in part):
                    wealth[dice.choice(part)] = following
                part = []
    return [means - worth for means, worth in zip(wealth, worths)]


def wealth_of(town, standing):
    """The wealth of each hand; "" of an empty home has an endless one."""
    found = {there[0]: there[1] + worth for (_, worth), there in zip(town[0], standing) if there}
    return {**found, "": math.inf}


def lot(town, standing):
    """All STANDS that can come about, by going through all exchanges one by one."""
    homes, roads = town
    worths = dict(homes)
    place = {name: k for k, (name, _) in enumerate(homes)}
    wealth = wealth_of(town, standing)
    seen = {tuple(there[0] if there else "" for there in standing)}
    todo = list(seen)
    while todo:
        stands = todo.pop()
        for one, other in roads:
            ends = stands[place[one]], stands[place[other]]
            if min(wealth[hand] for hand in ends) >= max(worths[one], worths[other]):
                behind = with_thing(with_thing(stands, place[one], ends[1]), place[other], ends[0])
                if behind not in seen:
                    seen.add(behind)
                    todo.append(behind)
    return seen


def shuffled_in_rooms(dice, town, room):
    """STANDS with each hand somewhere in its room, which the dict tells by names."""
    names = [name for name, _ in town[0]]
    stands = [""] * len(names)
    for hand in sorted(room, key=lambda hand: len(room[hand])):
        free = [names.index(name) for name in room[hand] if stands[names.index(name)] == ""]
        stands[dice.choice(free)] = hand
    return tuple(stands)


def lists_in(thing):
    """All lists in the thing, itself among them, each as often as it stands there."""
    if isinstance(thing, dict):
        return lists_in(list(thing.values()))[1:]
    if not isinstance(thing, (list, tuple)):
        return []
    inner = [found for part in thing for found in lists_in(part)]
    return [thing, *inner] if isinstance(thing, list) else inner


def hands_of(stands):
    """The hands that stand there, in order."""
    return sorted(hand for hand in stands if hand)


def places_of(stands):
    """The places of the hands' homes, hand by hand in their order: by these STANDS are numbered."""
    return [stands.index(hand) for hand in hands_of(stands)]


def in_order(all_stands):
    """STANDS of the same hands, in the order of 30."""
    return sorted(all_stands, key=places_of)


def with_coins(standing, coins):
    """The standing with other coins for the hands of the dict."""
    return tuple((there[0], coins.get(there[0], there[1])) if there else () for there in standing)


def with_wealths(town, stands, wealth):
    """The standing of these wealths in which they stand so; coins may be below 0 there."""
    return tuple((hand, wealth[hand] - worth) if hand else () for (_, worth), hand in zip(town[0], stands))


def check_own(test, ask):
    """What is asked for is told anew each time, and no list stands at two places of it."""
    told = ask()
    ahead = copy.deepcopy(told)
    lists = lists_in(told)
    test.assertEqual(len({id(found) for found in lists}), len(lists))
    for found in lists + [told] * isinstance(told, dict):
        found.clear()
    test.assertEqual(ask(), ahead)


def check_refused(test, calls):
    """Each of the calls, of a town and a standing, refuses what is none ahead of all else."""
    for call, (town, wrong), standing in itertools.product(calls, NO_TOWNS, (STANDING, None)):
        with test.assertRaises(NoTown) as caught:
            call(town, standing)
        test.assertEqual(caught.exception.wrong, wrong)
    for call, (standing, wrong) in itertools.product(calls, NO_STANDINGS):
        with test.assertRaises(NoStanding) as caught:
            call(TOWN, standing)
        test.assertEqual(caught.exception.wrong, wrong)


NO_HANDS = [thing for thing in ODD if thing not in ("eve", "bob", "ann")] + ["low", "Eve", "eve ", ("eve", 5), ["eve"]]
NO_HOMES = [thing for thing in ODD if thing not in ("low", "mid")] + ["eve", "Mid", "mid ", ("mid", 5), ["mid"]]


def check_no_hand(test, call, *rest):
    """The call, of a hand of the sample and the rest, refuses what is none, and tells it."""
    for hand in NO_HANDS:
        with test.assertRaises(NoHand) as caught:
            call(TOWN, STANDING, hand, *rest)
        test.assertIs(caught.exception.name, hand)


def check_no_home(test, call, *ahead):
    """The call, of what stands ahead and a home of the sample, refuses what is none, and tells it."""
    for home in NO_HOMES:
        with test.assertRaises(NoHome) as caught:
            call(TOWN, STANDING, *ahead, home)
        test.assertIs(caught.exception.name, home)


def can_key(thing):
    """Whether the thing may be a key of a dict."""
    try:
        hash(thing)
    except TypeError:
        return False
    return True


def naive_behind(town, wealth, event):
    """The town and the wealths behind an event, by the words of 50 and 51."""
    homes, roads = list(town[0]), list(town[1])
    wealth = dict(wealth)
    match event:
        case ("worths", worths):
            homes = [(homes[k][0], worths[k]) for k in range(len(homes))]
        case ("gift", one, other, coins):
            wealth[one] -= coins
            wealth[other] += coins
        case ("fee", hand, coins):
            wealth[hand] -= coins
        case ("grant", hand, coins):
            wealth[hand] += coins
        case ("road", near, far):
            roads.append((near, far))
        case ("bar", near, far):
            roads = [road for road in roads if set(road) != {near, far}]
        case ("goes", hand):
            wealth.pop(hand)
        case ("comes", hand, home, coins):
            wealth[hand] = dict(homes)[home] + coins
    return (tuple(homes), tuple(roads)), wealth


def naive_strike(town, stands, wealth, event):
    """The STANDS behind an event that strikes at these, None where somebody would owe or come into a taken home."""
    behind, later = naive_behind(town, wealth, event)
    there = list(stands)
    if event[0] == "goes":
        there[there.index(event[1])] = ""
    if event[0] == "comes":
        place = [name for name, _ in town[0]].index(event[2])
        if there[place]:
            return None
        there[place] = event[1]
    if any(hand and later[hand] < worth for (_, worth), hand in zip(behind[0], there)):
        return None
    return tuple(there)


def some_event(dice, town, hands, words=("worths", "gift", "fee", "grant", "road", "bar", "goes", "comes")):
    """An event of the town and these hands."""
    names = [name for name, _ in town[0]]
    hands = sorted(hands)
    joined = {frozenset(road) for road in town[1]}
    apart = [pair for pair in itertools.permutations(names, 2) if frozenset(pair) not in joined]
    coins = dice.choice([1, 1, 2, 3, 5])
    newcomers = [hand for hand in ("abe", "gus", "zoe") if hand not in hands]
    can = {"worths": [("worths", tuple(dice.choice([worth, worth, 0, 1, 2, 4]) for _, worth in town[0]))]}
    can["gift"] = [("gift", *pair, coins) for pair in itertools.permutations(hands, 2)]
    can["fee"] = [("fee", hand, coins) for hand in hands]
    can["grant"] = [("grant", hand, coins) for hand in hands]
    can["goes"] = [("goes", hand) for hand in hands]
    can["road"] = [("road", *pair) for pair in apart]
    can["bar"] = [("bar", *road[::step]) for road in town[1] for step in (1, -1)]
    can["comes"] = [("comes", dice.choice(newcomers), home, coins) for home in names if len(hands) < len(names)]
    words = [word for word in words if can[word]]
    return dice.choice(can[dice.choice(words or ["worths"])])


def all_placings(town, wealth):
    """All STANDS of these hands in which each affords its home."""
    hands = sorted(wealth) + [""] * (len(town[0]) - len(wealth))
    if len(hands) > len(town[0]):
        return []
    return [stands for stands in sorted(set(itertools.permutations(hands)))
            if all(not hand or wealth[hand] >= worth for (_, worth), hand in zip(town[0], stands))]


def named(thing):
    return type(thing) is str and re.fullmatch("[a-z][a-z0-9]{0,7}", thing) is not None


def changed_paper(dice, names, paper):
    """The paper with a few changes, which may leave it right."""
    walls, fenced = copy.deepcopy(paper)
    for _ in range(dice.randint(1, 3)):
        turn = dice.randrange(7)
        if turn == 0:
            dice.shuffle(walls)
        elif turn == 1 and walls:
            walls.pop(dice.randrange(len(walls)))
        elif turn == 2:
            walls.insert(dice.randint(0, len(walls)), dice.sample(names, dice.randint(1, len(names))))
        elif turn == 3:
            fenced = dice.sample(names, dice.randint(0, len(names)))
        elif turn == 4:
            dice.shuffle(fenced)
        elif turn == 5 and len(fenced) > 1:
            fenced.pop(dice.randrange(len(fenced)))
        elif walls:
            wall = dice.choice(walls)
            name = dice.choice(names)
            if name not in wall:
                wall.insert(0, name)
            elif len(wall) > 1:
                wall.remove(name)
    return (walls, fenced)


def longest(town):
    """The most exchanges that a told row may have."""
    many, unlike = len(town[0]), len({worth for _, worth in town[0]})
    return 2 * many * many * unlike * unlike + many * unlike


class NoPaper:
    """Things that are no paper of either form, as they are for come_wrong and bring_wrong of ann."""

    ROWS = [thing for thing in ODD if not isinstance(thing, list)] + [(("low", "mid"),)]
    PAIRS = [thing for thing in ODD if thing not in (("low", "mid"), ("mid", "low"))]
    PAIRS += [["low", "mid"], ("low", "nobody"), ("Low", "mid"), ("eve", "bob"), ("low", ["mid"]), ([], {})]
    PAIRS += [("low", "mid", "high"), (("low", "mid"),), ("lowmid",)]
    THINGS = ODD + [
        ["row", []], ("row",), ("row", [], []), ("Row", []), ("rows", []), ([], []), (None, []), ("barred", []),
        ["barred", "ann", ([], ["low2"])], ("barred", "ann"), ("barred", "ann", ([], ["low2"]), None),
        ("row", "ann", ([], ["low2"])), ("barred", ([], ["low2"])), ("Barred", "ann", ([], ["low2"])),
        ({}, "ann", ([], ["low2"])), ("barred", "ann", [], ["low2"]),
    ]
    THINGS += [("row", row) for row in ROWS]
    THINGS += [("row", row) for pair in PAIRS for row in ([pair], [("low", "mid"), pair], [("low", "high"), pair])]
    HANDS = [thing for thing in ODD if thing not in ("eve", "bob", "ann")] + ["low", "Ann", ("ann", 11), ["ann"], ""]
    THINGS += [("barred", hand, ([], ["low2"])) for hand in HANDS]
    THINGS += [("barred", "ann", thing) for thing in ODD if thing != ([], [])]
    THINGS += [("barred", "ann", paper) for paper in [
        ([[]], ["low2"]), ([["low", "low"]], ["low2"]), ([], ["low2", "low2"]), ([["ann"]], ["low2"]), ([], ["nobody"]),
        [[], ["low2"]], ([], ("low2",)), ((), ["low2"]), ([], ["low2"], []),
    ]]
