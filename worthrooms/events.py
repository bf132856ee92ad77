"""Events: what changes worths, coins, roads and hands, and what can come about through one."""

from worthrooms.crowds import are_unlike_hands, crowd_paper, crowd_wrong, fenced_hands, homes_found, is_crowd_paper
from worthrooms.crowds import stands_at
from worthrooms.errors import NoEvent, NoStands, Taken
from worthrooms.exchanges import stuck
from worthrooms.rooms import names_of, rooms_by_hand
from worthrooms.towns import are_stands, check_standing, hands_at, is_name, is_whole, place_of_home, placed_by
from worthrooms.towns import shortfall, wealth_by_hand
from worthrooms.ways import are_home_pairs, come

# What stands in an event behind its word.
FORMS = {
    "worths": ("worths",), "gift": ("hand", "hand", "coins"), "fee": ("hand", "coins"), "grant": ("hand", "coins"),
    "road": ("home", "home"), "bar": ("home", "home"), "goes": ("hand",), "comes": ("comer", "home", "coins"),
}


def are_worths(town, thing):
    """Tell whether the thing is a tuple of as many worths as there are homes."""
    if not isinstance(thing, tuple) or len(thing) != len(town[0]):
        return False
    return all(is_whole(worth) and worth >= 0 for worth in thing)


def fits(town, kind, thing):
    """Tell whether the thing has the form of this kind."""
    if kind == "worths":
        return are_worths(town, thing)
    if kind == "coins":
        return is_whole(thing) and thing >= 1
    return is_name(thing)


def has_form(town, thing):
    """Tell whether the thing has one of the forms of an event."""
    if not isinstance(thing, tuple) or thing == () or not isinstance(thing[0], str) or thing[0] not in FORMS:
        return False
    kinds = FORMS[thing[0]]
    return len(thing) == len(kinds) + 1 and all([fits(town, kind, part) for kind, part in zip(kinds, thing[1:])])


def bad_hand(hands, event):
    """Tell ("hand", k) of the first hand that isn't as its event asks, None where all are."""
    for k, kind in enumerate(FORMS[event[0]], start=1):
        if kind == "hand" and (event[k] not in hands or event[k] in event[1:k]):
            return ("hand", k)
        if kind == "comer" and event[k] in hands:
            return ("hand", k)
    return None


def bad_name(town, event):
    """Tell ("home", k) of the first name that is the name of no home, None where all are."""
    names = {name: True for name, _ in town[0]}
    for k, kind in enumerate(FORMS[event[0]], start=1):
        if kind == "home" and event[k] not in names:
            return ("home", k)
    return None


def bad_ends(town, event):
    """Tell ("road",) where the road can't come or go as the event asks, None where it can."""
    if event[0] not in ("road", "bar"):
        return None
    ends = event[1:]
    joined = ends in town[1] or ends[::-1] in town[1]
    return None if ends[0] != ends[1] and joined == (event[0] == "bar") else ("road",)


def event_fault(town, hands, thing):
    """Tell None of an event of the town and these hands, of anything else the first that isn't so."""
    if not has_form(town, thing):
        return ("event",)
    return bad_hand(hands, thing) or bad_name(town, thing) or bad_ends(town, thing)


def event_wrong(town, standing, thing):
    """Tell None of an event of the town and the standing, of anything else the first that isn't so."""
    check_standing(town, standing)
    return event_fault(town, wealth_by_hand(town, standing), thing)


def town_behind(town, event):
    """Tell the town behind the event."""
    homes, roads = town
    if event[0] == "worths":
        homes = tuple([(name, worth) for (name, _), worth in zip(homes, event[1])])
    elif event[0] == "road":
        roads = (*roads, event[1:])
    elif event[0] == "bar":
        ends = event[1:]
        roads = tuple([road for road in roads if road not in (ends, ends[::-1])])
    return (homes, roads)


def wealths_behind(town, wealth, event):
    """Map each hand that there is behind the event, in order, to its wealth then, which may be below 0."""
    found = dict(wealth)
    if event[0] == "gift":
        _, giver, taker, coins = event
        found[giver] -= coins
        found[taker] += coins
    elif event[0] == "fee":
        found[event[1]] -= event[2]
    elif event[0] == "grant":
        found[event[1]] += event[2]
    elif event[0] == "goes":
        del found[event[1]]
    elif event[0] == "comes":
        _, comer, home, coins = event
        found[comer] = town[0][place_of_home(town, home)][1] + coins
    return {hand: found[hand] for hand in sorted(found)}


def after(town, wealth, event):
    """Tell the town behind the event, and a dict from the hands there then to their wealths."""
    return (town_behind(town, event), wealths_behind(town, wealth, event))


def stands_behind(town, event, stands):
    """Tell the STANDS behind the event, None where the home of who comes is taken."""
    if event[0] == "goes":
        return tuple(["" if hand == event[1] else hand for hand in stands])
    if event[0] == "comes":
        place = place_of_home(town, event[2])
        if stands[place] != "":
            return None
        return tuple([event[1] if at == place else hand for at, hand in enumerate(stands)])
    return tuple(stands)


def strike(town, event, then, stands):
    """Tell the STANDS behind the event where it may strike at these, None where it may not."""
    found = stands_behind(town, event, stands)
    town_then, wealth_then = then
    if found is None or shortfall(town_then, wealth_then, found) is not None:
        return None
    return found


def check_event(town, standing, event):
    """Refuse what is no town, no standing of it, no event of them; tell the town and the wealths behind it."""
    wrong = event_wrong(town, standing, event)
    if wrong is not None:
        raise NoEvent(wrong)
    return after(town, wealth_by_hand(town, standing), event)


def struck(town, standing, event):
    """Tell the town and the standing behind the event."""
    town_then, wealth_then = check_event(town, standing, event)
    stands = stands_behind(town, event, hands_at(standing))
    if stands is None:
        raise Taken(event[2])
    return (town_then, placed_by(town_then, wealth_then, stands))


def standing_then(then, stands):
    """Tell the standing as wished in the town and of the wealths then, refuse what are no STANDS of them."""
    town_then, wealth_then = then
    if not are_stands(town_then, list(wealth_then), stands):
        raise NoStands()
    return placed_by(town_then, wealth_then, stands)


def rooms_by_name(town, standing):
    """Map each hand, in order, to the names of the homes in its room."""
    return {hand: names_of(town, places) for hand, places in rooms_by_hand(town, standing).items()}


def homes_through(event, ahead, behind, hand):
    """List the homes in which the event may find the hand, by the homes for it ahead and behind."""
    if hand not in behind:
        return list(ahead[hand])
    # Who comes is found in no home ahead, but is put into the told one.
    from_here = ahead[hand] if hand in ahead else [event[2]]
    return [name for name in from_here if name in behind[hand]]


def through(town, standing, event, stands):
    """Tell a row, the STANDS at which the event strikes, and a row to the wished ones; or a crowd that bars it."""
    then = check_event(town, standing, event)
    wished = standing_then(then, stands)
    town_then = then[0]
    ahead, behind = rooms_by_name(town, standing), rooms_by_name(town_then, wished)
    hands = sorted({**ahead, **behind})
    home, crowd = homes_found({hand: homes_through(event, ahead, behind, hand) for hand in hands})
    if crowd != []:
        paper = crowd_paper(town, standing, [hand for hand in crowd if hand in ahead])
        return ("crowd", crowd, paper, crowd_paper(town_then, wished, [hand for hand in crowd if hand in behind]))
    midst = stands_at(town, {hand: home[hand] for hand in ahead})
    _, row = come(town, standing, midst)
    found = placed_by(town_then, then[1], strike(town, event, then, midst))
    _, onward = come(town_then, found, stands)
    return ("through", row, midst, onward)


def is_through_paper(town, thing):
    """Tell whether the thing is ("through", ROW, MIDST, ROW) by form."""
    if not isinstance(thing, tuple) or len(thing) != 4 or thing[0] != "through":
        return False
    _, row, midst, onward = thing
    if not isinstance(midst, tuple) or len(midst) != len(town[0]) or not all(isinstance(hand, str) for hand in midst):
        return False
    return are_home_pairs(town, row) and are_home_pairs(town, onward)


def is_meeting_paper(town, ahead, behind, thing):
    """Tell whether the thing is ("crowd", HANDS, AHEAD, BEHIND) by form, of the hands ahead and behind."""
    if not isinstance(thing, tuple) or len(thing) != 4 or thing[0] != "crowd":
        return False
    if not are_unlike_hands({**ahead, **behind}, thing[1]):
        return False
    for hands, paper in ((ahead, thing[2]), (behind, thing[3])):
        if not is_crowd_paper(town, paper) or fenced_hands(paper) != [hand for hand in thing[1] if hand in hands]:
            return False
    return True


def way_wrong(town, standing, event, then, stands, thing):
    """Tell None of rows and a midst that lead to the wished STANDS, else the first fault."""
    _, row, midst, onward = thing
    here = list(standing)
    at = stuck(town, here, row)
    if at is not None:
        return ("row", at)
    if tuple(hands_at(here)) != midst:
        return ("midst",)
    found = strike(town, event, then, midst)
    if found is None:
        return ("strike",)
    town_then, wealth_then = then
    here = list(placed_by(town_then, wealth_then, found))
    at = stuck(town_then, here, onward)
    if at is not None:
        return ("onward", at)
    return None if tuple(hands_at(here)) == stands else ("end",)


def meeting_wrong(town, standing, event, town_then, wished, thing):
    """Tell None of a crowd that has too few homes at the event, else the first fault."""
    _, hands, ahead, behind = thing
    wrong = crowd_wrong(town, standing, ahead) or crowd_wrong(town_then, wished, behind)
    if wrong is not None:
        return wrong
    fenced, fenced_then = dict(ahead[1]), dict(behind[1])
    homes = {name: True for hand in hands for name in homes_through(event, fenced, fenced_then, hand)}
    return ("many",) if len(homes) >= len(hands) else None


def through_wrong(town, standing, event, stands, thing):
    """Tell None of what shows whether the STANDS can come about through the event, else the first fault."""
    then = check_event(town, standing, event)
    wished = standing_then(then, stands)
    town_then, wealth_then = then
    if is_through_paper(town, thing):
        return way_wrong(town, standing, event, then, stands, thing)
    if is_meeting_paper(town, wealth_by_hand(town, standing), wealth_then, thing):
        return meeting_wrong(town, standing, event, town_then, wished, thing)
    return ("paper",)
