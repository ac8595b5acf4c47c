"""Worths: fractions (top, bottom) in lowest terms, shown and read by groups of sixties."""

from math import gcd

from tabletsky.errors import NoFit, NoText, NoWorth
from tabletsky.kinds import FIGURES, is_tuple

MOST_GROUPS = 8


def is_whole(thing):
    """Whether a thing is a whole number: an int, but no truth."""
    return isinstance(thing, int) and not isinstance(thing, bool)


def is_whole_from(thing, least, most):
    """Whether a thing is a whole number from least to most."""
    return is_whole(thing) and least <= thing <= most


def is_form(thing):
    """Whether a thing is a tuple of numbers of wholes and of parts."""
    if not is_tuple(thing, 2):
        return False
    wholes, parts = thing
    return is_whole_from(wholes, 1, MOST_GROUPS) and is_whole_from(parts, 0, MOST_GROUPS)


def worth(top, bottom=1):
    """The worth of one whole number by another one."""
    if not is_whole(top) or not is_whole(bottom) or bottom == 0:
        raise NoWorth("a worth is made of two whole numbers, the second one not 0")
    shared = gcd(top, bottom)
    if bottom < 0:
        shared = -shared
    return (top // shared, bottom // shared)


def is_worth(thing):
    """Whether a thing is a worth as it stands, in lowest terms."""
    if not is_tuple(thing, 2):
        return False
    top, bottom = thing
    return is_whole(top) and is_whole(bottom) and bottom > 0 and gcd(top, bottom) == 1


def _refuse_others(one, other):
    if not is_worth(one) or not is_worth(other):
        raise NoWorth("it is asked of two worths")


def is_above_nought(thing):
    """Whether a thing is a worth above 0."""
    return is_worth(thing) and thing[0] > 0


def plus(one, other):
    """The one and the other added."""
    _refuse_others(one, other)
    return worth(one[0] * other[1] + other[0] * one[1], one[1] * other[1])


def minus(one, other):
    """The one with the other taken from it."""
    _refuse_others(one, other)
    return worth(one[0] * other[1] - other[0] * one[1], one[1] * other[1])


def times(one, other):
    """The one by so many times as the other tells."""
    _refuse_others(one, other)
    return worth(one[0] * other[0], one[1] * other[1])


def over(one, other):
    """The one parted by the other, which is not nought."""
    _refuse_others(one, other)
    # Of nought as the other one the bottom is 0 here, which worth refuses.
    return worth(one[0] * other[1], one[1] * other[0])


def is_less(one, other):
    """Whether the one is less than the other."""
    _refuse_others(one, other)
    return one[0] * other[1] < other[0] * one[1]


def _sixties(count):
    """60 times itself, count times."""
    made = 1
    for _ in range(count):
        made = made * 60
    return made


def show(thing, *, wholes=1, parts=0):
    """The text of a worth by so many groups of wholes and of parts."""
    if not is_worth(thing):
        raise NoWorth("what is shown is a worth")
    if not is_form((wholes, parts)):
        raise NoWorth("wholes are from 1 to 8, parts from 0 to 8")
    units, left = divmod(thing[0] * _sixties(parts), thing[1])
    if units < 0 or units >= _sixties(wholes + parts) or left != 0:
        raise NoFit("the worth can't be shown by so many groups")
    return joined_groups(_groups_of(units, wholes + parts), wholes)


def _groups_of(units, many):
    """The texts of so many groups, the last one telling ones."""
    groups = []
    for _ in range(many):
        units, last = divmod(units, 60)
        groups.append(f"{last:02d}")
    groups.reverse()
    return groups


def joined_groups(groups, wholes):
    """The text of groups, so many of them wholes, the others parts."""
    text = ",".join(groups[:wholes])
    if len(groups) > wholes:
        text = text + ";" + ",".join(groups[wholes:])
    return text


def read(text):
    """The tuple (worth, wholes, parts) of a text that show can tell."""
    if not isinstance(text, str):
        raise NoText(None)
    head, mark, tail = text.partition(";")
    wholes = head.split(",")
    # Without the mark there are no parts; behind it an empty text is a group that is none.
    parts = tail.split(",") if mark else []
    at = _first_unfit(wholes)
    if at is not None:
        raise NoText(at)
    at = _first_unfit(parts)
    if at is not None:
        raise NoText(len(wholes) + at)
    units = 0
    for group in wholes + parts:
        units = units * 60 + int(group)
    return (worth(units, _sixties(len(parts))), len(wholes), len(parts))


def _first_unfit(groups):
    """The number of the first text that is no group, or is one too many; None where all may stand."""
    for at, group in enumerate(groups):
        if at >= MOST_GROUPS or not _is_group(group):
            return at
    return None


def _is_group(text):
    # isdigit would take figures of other scripts, too.
    return len(text) == 2 and text[0] in "012345" and text[1] in FIGURES
