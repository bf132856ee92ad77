"""Towns, the standings of hands in them, and the wealths that no exchange changes."""

from worthrooms.errors import NoHand, NoHome, NoStanding, NoStands, NoTown, Short

LETTERS = "abcdefghijklmnopqrstuvwxyz"
SIGNS = "abcdefghijklmnopqrstuvwxyz0123456789"


def is_whole(thing):
    """Tell whether the thing is a whole number."""
    # True and False are ints to Python, but no whole numbers here.
    return isinstance(thing, int) and not isinstance(thing, bool)


def is_name(thing):
    """Tell whether the thing is a NAME."""
    if not isinstance(thing, str) or not 1 <= len(thing) <= 8:
        return False
    return thing[0] in LETTERS and all(sign in SIGNS for sign in thing)


def is_pair(thing):
    """Tell whether the thing is a tuple of two."""
    return isinstance(thing, tuple) and len(thing) == 2


def is_text_pair(thing):
    """Tell whether the thing is a tuple of two texts, so that it may be looked up in a dict."""
    return is_pair(thing) and isinstance(thing[0], str) and isinstance(thing[1], str)


def is_entry(thing):
    """Tell whether the thing is a tuple of a NAME and a whole number from 0 on."""
    return is_pair(thing) and is_name(thing[0]) and is_whole(thing[1]) and thing[1] >= 0


def bad_home(homes):
    """Tell ("home", k) of the first home that isn't right, None where all are."""
    names = {}
    for k, home in enumerate(homes):
        if not is_entry(home) or home[0] in names:
            return ("home", k)
        names[home[0]] = True
    return None


def bad_road(homes, roads):
    """Tell ("road", k) of the first road that isn't right, None where all are."""
    names = {name: True for name, _ in homes}
    joined = {}
    for k, road in enumerate(roads):
        if not is_text_pair(road) or road in joined:
            return ("road", k)
        near, far = road
        if near not in names or far not in names or near == far:
            return ("road", k)
        joined[(near, far)] = True
        joined[(far, near)] = True
    return None


def town_wrong(thing):
    """Tell None of a town, of anything else the first that isn't so."""
    if not is_pair(thing):
        return ("town",)
    homes, roads = thing
    if not isinstance(homes, tuple) or not isinstance(roads, tuple) or homes == ():
        return ("town",)
    return bad_home(homes) or bad_road(homes, roads)


def check_town(town):
    """Refuse what is no town."""
    wrong = town_wrong(town)
    if wrong is not None:
        raise NoTown(wrong)


def standing_wrong(town, thing):
    """Tell None of a standing of the town, of anything else the first that isn't so."""
    check_town(town)
    if not isinstance(thing, tuple) or len(thing) != len(town[0]):
        return ("standing",)
    hands = {}
    for k, there in enumerate(thing):
        if there == ():
            continue
        if not is_entry(there) or there[0] in hands:
            return ("hand", k)
        hands[there[0]] = True
    return None


def check_standing(town, standing):
    """Refuse what is no town, then what is no standing of it."""
    wrong = standing_wrong(town, standing)
    if wrong is not None:
        raise NoStanding(wrong)


def place_of_home(town, home):
    """Tell the place of the home of this name, refuse what is the name of none."""
    for place, (name, _) in enumerate(town[0]):
        if name == home:
            return place
    raise NoHome(home)


def place_of_hand(standing, hand):
    """Tell the place where the hand stands, refuse what is none of the standing."""
    for place, there in enumerate(standing):
        if there != () and there[0] == hand:
            return place
    raise NoHand(hand)


def wealth_by_hand(town, standing):
    """Map each hand, in order, to its wealth."""
    found = {}
    for (_, worth), there in zip(town[0], standing):
        if there != ():
            hand, coins = there
            found[hand] = coins + worth
    return {hand: found[hand] for hand in sorted(found)}


def hands_at(standing):
    """List home by home the hand that stands there, "" where it is empty."""
    return [there[0] if there else "" for there in standing]


def wealths(town, standing):
    """Tell the hands, in order, with their wealths."""
    check_standing(town, standing)
    return wealth_by_hand(town, standing)


def stands_of(town, standing):
    """Tell home by home the hand that stands there, "" where it is empty."""
    check_standing(town, standing)
    return tuple(hands_at(standing))


def are_stands(town, hands, thing):
    """Tell whether the thing is STANDS of just these hands, which are told in order."""
    if not isinstance(thing, tuple) or len(thing) != len(town[0]):
        return False
    if not all(isinstance(hand, str) for hand in thing):
        return False
    return sorted([hand for hand in thing if hand != ""]) == hands


def check_stands(town, standing, stands):
    """Refuse what is no town, then what is no standing of it, then what is no STANDS of just its hands."""
    check_standing(town, standing)
    if not are_stands(town, list(wealth_by_hand(town, standing)), stands):
        raise NoStands()


def shortfall(town, wealth, stands):
    """Tell (hand, lacks) of the first hand, in order, that can't afford its home, None where each can."""
    worths = {hand: worth for (_, worth), hand in zip(town[0], stands)}
    for hand, means in wealth.items():
        if worths[hand] > means:
            return (hand, worths[hand] - means)
    return None


def placed_by(town, wealth, stands):
    """Tell the standing of these wealths in which the hands stand so, refuse where one can't afford its home."""
    short = shortfall(town, wealth, stands)
    if short is not None:
        hand, lacks = short
        raise Short(hand, lacks)
    return tuple([(hand, wealth[hand] - worth) if hand else () for (_, worth), hand in zip(town[0], stands)])


def placed(town, standing, stands):
    """Tell the standing of the same wealths in which the hands stand as STANDS tell."""
    check_stands(town, standing, stands)
    return placed_by(town, wealth_by_hand(town, standing), stands)
