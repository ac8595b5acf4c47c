"""Zones: places that go round a ring, in each zone by its own step."""

from math import lcm

from tabletsky.errors import NoRule
from tabletsky.kinds import is_list
from tabletsky.lines import NOUGHT, rows_with
from tabletsky.sixties import is_above_nought, is_less, is_worth, minus, over, plus, times, worth

MOST_ZONES = 12


def are_borders(thing, ring):
    """Whether a thing is a list of borders by which a ring can be parted."""
    if not is_list(thing, 1, MOST_ZONES) or not all([is_worth(border) for border in thing]):
        return False
    ends = thing[1:] + [ring]
    return thing[0] == NOUGHT and all([is_less(border, end) for border, end in zip(thing, ends)])


def _are_steps(thing, many):
    """Whether a thing is a list of so many steps."""
    return is_list(thing, many, many) and all([is_above_nought(step) for step in thing])


def _first_wrong(ring, borders, steps, at):
    """The name of the first of these that isn't so; None where they make zones."""
    if not is_above_nought(ring):
        return "ring"
    if not are_borders(borders, ring):
        return "borders"
    if not _are_steps(steps, len(borders)):
        return "steps"
    if not is_worth(at) or is_less(at, NOUGHT) or not is_less(at, ring):
        return "at"
    return None


class Zones:
    """A place on a ring of zones, told for each row, however far ahead or behind.

    A place is kept as the rows that it takes to get there from the ring's beginning: these grow
    by just one from row to row, whatever the zones. So a far row costs no more than a near one.
    """

    def __init__(self, *, ring, borders, steps, at):
        why = _first_wrong(ring, borders, steps, at)
        if why is not None:
            raise NoRule(why)
        self._ring = ring
        self._borders = list(borders)
        self._steps = list(steps)
        takes = [NOUGHT]
        for border, end, step in zip(borders, borders[1:] + [ring], steps):
            takes.append(plus(takes[-1], over(minus(end, border), step)))
        zone = self.zone_of(at)
        start = plus(takes[zone], over(minus(at, borders[zone]), steps[zone]))
        self._scale = start[1]
        for rows in takes:
            self._scale = lcm(self._scale, rows[1])
        self._start = self._units(start)
        # By zones, how much it takes to the zone's border; at last, how much it takes once round.
        self._takes = [self._units(rows) for rows in takes]

    def _units(self, rows):
        """Rows, a worth that is whole in the units of these zones, as so many of these."""
        return rows[0] * (self._scale // rows[1])

    def _gone(self, row):
        """How often the place came round up to a row, and the place itself."""
        rounds, left = divmod(self._start + row * self._scale, self._takes[-1])
        zone = len([begin for begin in self._takes[1:-1] if begin <= left])
        behind = worth(left - self._takes[zone], self._scale)
        return rounds, plus(self._borders[zone], times(behind, self._steps[zone]))

    def value(self, row):
        """The place at a row."""
        _, place = self._gone(row)
        return place

    def far(self, row):
        """How far the place at a row lies behind the ring's beginning, all rounds counted."""
        rounds, place = self._gone(row)
        return plus(times(self._ring, worth(rounds)), place)

    def zone_of(self, thing):
        """The number of a place's zone."""
        return len([border for border in self._borders[1:] if not is_less(thing, border)])

    def returns(self):
        """The tuple (rows, rounds) behind which the place is the same again."""
        # Once round takes rows by rounds, a worth: in lowest terms these are the least ones.
        return worth(self._takes[-1], self._scale)

    def rows_of(self, thing):
        """The rows of one return that have a place."""
        return rows_with(self, thing)

    def made_of(self):
        """The tuple (ring, borders, steps, at) of which these zones can be made again."""
        return (self._ring, list(self._borders), list(self._steps), self.value(0))
