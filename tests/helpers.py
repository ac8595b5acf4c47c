"""What tests of several files need."""

import signal
from contextlib import contextmanager
from fractions import Fraction

from tabletsky.tablets import Tablet
from tabletsky.zones import Zones

FAR = 10 ** 12
NO_WORTHS = (
    None, True, False, 0, 1, 5, "5", "", b"5", [], [5, 1], {}, (), (5,), (5, 1, 1), (10, 2), (0, 2),
    (5, 0), (5, -1), (-5, -1), (True, 1), (5, True), ("5", "1"), ((5, 1), (1, 1)), object(),
)
# What is neither a list nor a name, of all kinds.
ODD_THINGS = (None, True, False, 0, 1, -1, "", "A", b"a", (), {}, set(), ("a",), {"a": 1}, {"a"}, frozenset(), object())


@contextmanager
def soon(seconds=20):
    """Fails what goes through all rows up to a far one, which would never end."""
    def late(number, frame):
        raise AssertionError("a far row takes too long")
    before = signal.signal(signal.SIGALRM, late)
    signal.alarm(seconds)
    try:
        yield
    finally:
        signal.alarm(0)
        signal.signal(signal.SIGALRM, before)


def fraction_of(thing):
    return Fraction(thing[0], thing[1])


def worth_of(fraction):
    return (fraction.numerator, fraction.denominator)


def counted(rows, at=0):
    """Zones that tell 0, 1, 2 and so on, again behind so many rows."""
    return Zones(ring=(rows, 1), borders=[(0, 1)], steps=[(1, 1)], at=(at, 1))


def tablet_of(names, forms, *rows):
    return Tablet(names=names.split(), forms=forms, rows=[row.split() for row in rows])


def shown(worth, form):
    """The text of a worth by the words of point 6; None where it doesn't fit."""
    wholes, parts = form
    units = fraction_of(worth) * 60 ** parts
    if units.denominator != 1 or not 0 <= units < 60 ** (wholes + parts):
        return None
    groups = [f"{int(units) // 60 ** at % 60:02}" for at in range(wholes + parts - 1, -1, -1)]
    return ";".join(",".join(some) for some in (groups[:wholes], groups[wholes:]) if some)
