"""The refusals. Each class stands straight under TownError; a field that isn't told is None."""


class TownError(ValueError):
    """Stands above all refusals of this package."""


class NoStands(TownError):
    """What was handed in as STANDS is none of the standing."""


class NoRow(TownError):
    """What was handed in as a row is no list."""


class Unlike(TownError):
    """Two standings have not the same STANDS."""


class NoTown(TownError):
    """What was handed in as a town is none; wrong is what town_wrong tells."""

    def __init__(self, wrong=None):
        self.wrong = wrong


class NoStanding(TownError):
    """What was handed in as a standing is none; wrong is what standing_wrong tells."""

    def __init__(self, wrong=None):
        self.wrong = wrong


class NoEvent(TownError):
    """What was handed in as an event is none; wrong is what event_wrong tells."""

    def __init__(self, wrong=None):
        self.wrong = wrong


class NoCalendar(TownError):
    """What was handed in as a calendar is none; wrong is what calendar_wrong tells."""

    def __init__(self, wrong=None):
        self.wrong = wrong


class NoHand(TownError):
    """What was handed in as a hand is none; name is what was handed in."""

    def __init__(self, name=None):
        self.name = name


class NoHome(TownError):
    """What was handed in as a home is none; name is what was handed in."""

    def __init__(self, name=None):
        self.name = name


class Short(TownError):
    """A hand lacks coins; at is the place in the row of the exchange that it cannot pay."""

    def __init__(self, hand=None, lacks=None, at=None):
        self.hand = hand
        self.lacks = lacks
        self.at = at


class NoRoad(TownError):
    """No road joins the pair that was handed in; at is its place in the row."""

    def __init__(self, pair=None, at=None):
        self.pair = pair
        self.at = at


class Barred(TownError):
    """A hand never comes to a home; paper shows it."""

    def __init__(self, paper=None):
        self.paper = paper


class Needed(TownError):
    """A hand never comes to a home without another one; paper shows it."""

    def __init__(self, paper=None):
        self.paper = paper


class NoNumber(TownError):
    """What was handed in numbers none of the STANDS; many is how many there are."""

    def __init__(self, many=None):
        self.many = many


class Taken(TownError):
    """Somebody stands in the home of this name already."""

    def __init__(self, name=None):
        self.name = name


class TooGreat(TownError):
    """There are more than most to look at."""

    def __init__(self, most=None):
        self.most = most
