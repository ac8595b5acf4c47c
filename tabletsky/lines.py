"""Lines: worths that go up and down between two bounds by a step."""

from math import gcd, lcm

from tabletsky.errors import NoRule, TooMany
from tabletsky.sixties import is_above_nought, is_less, is_worth, minus, worth

NOUGHT = (0, 1)
MOST_ROWS = 5000


def _first_wrong(low, high, step, at, up):
    """The name of the first of these that isn't so; None where they make a line."""
    if not is_worth(low) or is_less(low, NOUGHT):
        return "low"
    if not is_worth(high) or not is_less(low, high):
        return "high"
    if not is_above_nought(step) or is_less(minus(high, low), step):
        return "step"
    if not is_worth(at) or is_less(at, low) or is_less(high, at):
        return "at"
    if not isinstance(up, bool):
        return "up"
    return None


def rows_with(rule, thing):
    """The rows of one return of a line, or of zones, that have a worth."""
    rows, _ = rule.returns()
    if rows > MOST_ROWS:
        raise TooMany("it comes again behind more than 5,000 rows")
    # To == a truth is a number, so (True, 1) would be found where (1, 1) is.
    if not is_worth(thing):
        return []
    return [row for row in range(rows) if rule.value(row) == thing]


class Line:
    """A line, told for each row, however far ahead or behind.

    Up from low to high and down again is once round a ring of twice the span, each row
    a step farther on: so a far row costs no more than a near one.
    """

    def __init__(self, *, low, high, step, at, up=True):
        why = _first_wrong(low, high, step, at, up)
        if why is not None:
            raise NoRule(why)
        self._scale = lcm(low[1], high[1], step[1], at[1])
        self._low = self._units(low)
        self._span = self._units(high) - self._low
        self._step = self._units(step)
        climbed = self._units(at) - self._low
        self._start = climbed if up else 2 * self._span - climbed

    def _units(self, thing):
        """A worth that is whole in the line's units, as so many of these."""
        return thing[0] * (self._scale // thing[1])

    def _place(self, row):
        """How far round the ring the line is at a row, 0 at low and the span at high."""
        return (self._start + self._step * row) % (2 * self._span)

    def value(self, row):
        """The worth at a row."""
        place = self._place(row)
        return worth(self._low + min(place, 2 * self._span - place), self._scale)

    def rises(self, row):
        """Whether the line goes up from a row on."""
        return self._place(row) < self._span

    def returns(self):
        """The tuple (rows, rounds) behind which worth and way are the same again."""
        shared = gcd(self._step, 2 * self._span)
        return (2 * self._span // shared, self._step // shared)

    def rows_of(self, thing):
        """The rows of one return that have a worth."""
        return rows_with(self, thing)

    def made_of(self):
        """The tuple (low, high, step, at, up), at and up at row 0, of which this line can be made again."""
        low = worth(self._low, self._scale)
        high = worth(self._low + self._span, self._scale)
        return (low, high, worth(self._step, self._scale), self.value(0), self.rises(0))

    def turn(self):
        """The tuple (start, step, ring, scale): where it is on its ring at row 0, and what each row adds.

        All is told in units, so many of which as scale tells are 1. Up to half the ring it goes up.
        """
        return (self._start, self._step, 2 * self._span, self._scale)
