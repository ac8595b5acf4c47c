"""The refusals: all right under SkyError, none under another one."""


class SkyError(ValueError):
    """The base of all refusals."""


class NoWorth(SkyError):
    """What is no worth, or no such numbers of groups."""


class NoFit(SkyError):
    """A worth that so many groups can't show."""


class NoText(SkyError):
    """A text that can't be read; at is the number of what isn't so, None of what is no text."""

    def __init__(self, at):
        self.at = at


class NoRule(SkyError):
    """What is no rule; why names what isn't so."""

    def __init__(self, why):
        self.why = why


class NoColumn(SkyError):
    """A name by which no column stands."""

    def __init__(self, name):
        self.name = name


class NoReturn(SkyError):
    """A column that never comes again."""


class TooMany(SkyError):
    """More rows, pieces, ways or works than may be."""


class NoTablet(SkyError):
    """What is no tablet; why tells what isn't so."""

    def __init__(self, why):
        self.why = why


class Barred(SkyError):
    """A row and a column at which a tablet can't stand."""

    def __init__(self, row, name):
        self.row = row
        self.name = name


class Nowhere(SkyError):
    """A tablet that can stand at no row."""


class NoMatch(SkyError):
    """Pieces of unlike names or forms."""


class Clash(SkyError):
    """A place at which pieces have unlike figures."""

    def __init__(self, row, name, sign):
        self.row = row
        self.name = name
        self.sign = sign


class NoMonth(SkyError):
    """What is no month of a year."""


class NoDay(SkyError):
    """A day that a month doesn't have."""


class NoDark(SkyError):
    """No dark row, or a row that isn't dark."""


class NoLine(SkyError):
    """What a desk can't be told."""


class NoThing(SkyError):
    """A name by which no such thing stands on a desk."""

    def __init__(self, name):
        self.name = name


class NoDeed(SkyError):
    """Steps that are not there to be taken back, or done again."""


class Busy(SkyError):
    """A desk that is in the midst of a work."""
