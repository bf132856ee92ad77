"""Calendars: what can come about through several events, by all STANDS of each lot."""

from worthrooms.counts import Lot, first_with
from worthrooms.errors import NoCalendar, TooGreat
from worthrooms.events import after, event_fault, standing_then, strike
from worthrooms.rooms import first_outside, rooms_by_hand
from worthrooms.towns import are_stands, check_standing, hands_at, is_pair, placed_by, shortfall, wealth_by_hand

MOST_STANDS = 720


def places_by_hand(room, stands):
    """List the places at which the hands of the dict stand."""
    return [stands.index(hand) for hand in room]


def stands_of_rooms(town, room):
    """List all STANDS with each hand in its room, in their order."""
    rows = [{}]
    # Smaller rooms first: then each row finds a home for the next hand, so there are never more rows than STANDS.
    for hand in sorted(room, key=lambda name: len(room[name])):
        rows = [{**row, place: hand} for row in rows for place in room[hand] if place not in row]
    found = [tuple([row.get(place, "") for place in range(len(town[0]))]) for row in rows]
    return sorted(found, key=lambda stands: places_by_hand(room, stands))


def check_most(many, most):
    """Refuse more lots, or STANDS of a lot, than most."""
    if many > most:
        raise TooGreat(most)


class Stage:
    """A town with hands and wealths between two events, and the lots of it that were asked for so far."""

    def __init__(self, town, wealth):
        self.town = town
        self.wealth = wealth
        self.lots = []

    def may_be(self, thing):
        """Tell whether the thing is STANDS of just these hands, each affording its home."""
        if not are_stands(self.town, list(self.wealth), thing):
            return False
        return shortfall(self.town, self.wealth, thing) is None

    def lot_of(self, stands):
        """Tell of the lot of these STANDS the rooms of its hands, its first STANDS, and how many they are."""
        for lot in self.lots:
            if first_outside(lot[0], stands) is None:
                return lot
        room = rooms_by_hand(self.town, placed_by(self.town, self.wealth, stands))
        found = (room, first_with(self.town, room, {}), Lot(room).total())
        self.lots.append(found)
        return found

    def first_of(self, stands):
        """Tell the first STANDS of the lot of these."""
        return self.lot_of(stands)[1]

    def behind_event(self, event, following, stands):
        """Tell the STANDS behind the event, in the stage that follows, None where it can't strike at these."""
        return strike(self.town, event, (following.town, following.wealth), stands)

    def check_small(self, stands, most):
        """Refuse a lot of more STANDS than most."""
        check_most(self.lot_of(stands)[2], most)


def calendar_wrong(town, standing, thing):
    """Tell None of a calendar of the town and the standing, of anything else the first that isn't so."""
    check_standing(town, standing)
    if not isinstance(thing, list):
        return ("calendar",)
    wealth = wealth_by_hand(town, standing)
    for k, event in enumerate(thing):
        wrong = event_fault(town, wealth, event)
        if wrong is not None:
            return ("event", k, wrong)
        town, wealth = after(town, wealth, event)
    return None


def stages_of(town, standing, calendar):
    """List the stages ahead of, between and behind the events, refuse what is no calendar."""
    wrong = calendar_wrong(town, standing, calendar)
    if wrong is not None:
        raise NoCalendar(wrong)
    found = [Stage(town, wealth_by_hand(town, standing))]
    for event in calendar:
        town_then, wealth_then = after(found[-1].town, found[-1].wealth, event)
        found.append(Stage(town_then, wealth_then))
    return found


def strikes(stage, following, event, stands):
    """List the STANDS of the lot of these, in their order, at which the event may strike, each with those behind."""
    found = []
    for midst in stands_of_rooms(stage.town, stage.lot_of(stands)[0]):
        behind = stage.behind_event(event, following, midst)
        if behind is not None:
            found.append((midst, behind))
    return found


def lots_after(stage, following, event, firsts, most):
    """Map the first of each lot behind the event to (the first of one ahead, STANDS of it that lead there)."""
    found = {}
    for ahead in firsts:
        stage.check_small(ahead, most)
        for midst, behind in strikes(stage, following, event, ahead):
            found[following.first_of(behind)] = (ahead, midst)
            check_most(len(found), most)
    return found


def traces(stages, calendar, standing, most):
    """List for each number of events what lots_after tells, refuse too great lists and lots."""
    found = [{stages[0].first_of(tuple(hands_at(standing))): None}]
    check_most(len(found[0]), most)
    for k, event in enumerate(calendar):
        found.append(lots_after(stages[k], stages[k + 1], event, found[k], most))
    return found


def lots_behind(town, standing, calendar, *, most=MOST_STANDS):
    """List for each number of events the firsts of all lots that may be behind so many."""
    stages = stages_of(town, standing, calendar)
    return [sorted(trace) for trace in traces(stages, calendar, standing, most)]


def check_led(town, standing, calendar, stands):
    """Refuse what is no calendar, then what are no STANDS at its end; list its stages."""
    stages = stages_of(town, standing, calendar)
    standing_then((stages[-1].town, stages[-1].wealth), stands)
    return stages


def led(town, standing, calendar, stands, *, most=MOST_STANDS):
    """Tell STANDS, one for each event, by which the calendar leads to the wished ones, or all lots behind it."""
    stages = check_led(town, standing, calendar, stands)
    found = traces(stages, calendar, standing, most)
    first = stages[-1].first_of(stands)
    if first not in found[-1]:
        return ("closed", [sorted(trace) for trace in found])
    midsts = []
    for trace in found[:0:-1]:
        first, midst = trace[first]
        midsts.append(midst)
    return ("led", midsts[::-1])


def are_all_stands(stage, thing):
    """Tell whether the thing is a list of STANDS of the stage, each hand affording its home."""
    return isinstance(thing, list) and all(stage.may_be(stands) for stands in thing)


def is_led_paper(stages, thing):
    """Tell whether the thing is ("led", MIDSTS) by form."""
    if not is_pair(thing) or thing[0] != "led" or not isinstance(thing[1], list) or len(thing[1]) != len(stages) - 1:
        return False
    return all([stage.may_be(midst) for stage, midst in zip(stages, thing[1])])


def is_closed_paper(stages, thing):
    """Tell whether the thing is ("closed", lots) by form."""
    if not is_pair(thing) or thing[0] != "closed" or not isinstance(thing[1], list) or len(thing[1]) != len(stages):
        return False
    return all([are_all_stands(stage, listed) for stage, listed in zip(stages, thing[1])])


def midsts_wrong(stages, calendar, here, stands, midsts):
    """Tell None of midsts that lead from here to the wished STANDS, else the first fault."""
    for k, midst in enumerate(midsts):
        if first_outside(stages[k].lot_of(here)[0], midst) is not None:
            return ("midst", k)
        here = stages[k].behind_event(calendar[k], stages[k + 1], midst)
        if here is None:
            return ("strike", k)
    return None if first_outside(stages[-1].lot_of(here)[0], stands) is None else ("end",)


def first_open(stage, following, event, listed, listed_then):
    """Tell the first STANDS of the lots listed from which the event leads to a lot that isn't, None of none."""
    closed = {first: True for first in listed_then}
    seen = {}
    for stands in listed:
        first = stage.first_of(stands)
        if first not in seen:
            seen[first] = True
            for midst, behind in strikes(stage, following, event, stands):
                if following.first_of(behind) not in closed:
                    return midst
    return None


def lots_wrong(stages, calendar, here, stands, lots, most):
    """Tell None of lists of lots that the calendar doesn't leave and that lack the wished STANDS, else the fault."""
    for stage, listed in zip(stages, lots[:-1]):
        for there in listed:
            stage.check_small(there, most)
    if stages[0].first_of(here) not in lots[0]:
        return ("begin",)
    for k, event in enumerate(calendar):
        midst = first_open(stages[k], stages[k + 1], event, lots[k], lots[k + 1])
        if midst is not None:
            return ("open", k, midst)
    return ("there",) if stages[-1].first_of(stands) in lots[-1] else None


def led_wrong(town, standing, calendar, stands, thing, *, most=MOST_STANDS):
    """Tell None of what shows whether the calendar leads to the wished STANDS, of anything else the first fault."""
    stages = check_led(town, standing, calendar, stands)
    here = tuple(hands_at(standing))
    if is_led_paper(stages, thing):
        return midsts_wrong(stages, calendar, here, stands, thing[1])
    if is_closed_paper(stages, thing):
        return lots_wrong(stages, calendar, here, stands, thing[1], most)
    return ("paper",)
