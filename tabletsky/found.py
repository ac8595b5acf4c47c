"""Rules found by the worths that they have, and rules told apart."""

from math import gcd

from tabletsky.errors import NoColumn, NoReturn, NoRule, NoWorth, TooMany
from tabletsky.kinds import is_list
from tabletsky.lines import MOST_ROWS, NOUGHT, Line
from tabletsky.sixties import is_above_nought, is_less, is_worth
from tabletsky.zones import Zones, are_borders

MOST_SEEN = 60
MOST_CHOICES = 4096
MOST_RULES = 40


def _refuse_unseen(worths):
    """Refuses what are no worths seen."""
    if not is_list(worths, 1, MOST_SEEN) or not all([thing is None or is_worth(thing) for thing in worths]):
        raise NoWorth("worths seen are a list of 1 to 60 worths, None for lost ones")
    if all([thing is None for thing in worths]):
        raise NoWorth("not all of the worths seen may be lost")


def _seen_of(worths):
    """How many rows are lost at first, and of each worth behind these, how far it lies behind them."""
    found = [(at, thing) for at, thing in enumerate(worths) if thing is not None]
    lost, _ = found[0]
    return lost, [(at - lost, thing) for at, thing in found]


def _are_unlike(thing):
    """Whether a thing is a list of unlike worths, one at least."""
    if not isinstance(thing, list) or not thing or not all([is_worth(one) for one in thing]):
        return False
    return len(set(thing)) == len(thing)


def _has(rule, seen):
    """Whether a rule has worths seen, the first one at its row 0."""
    for row, thing in seen:
        if rule.value(row) != thing:
            return False
    return True


def lines_with(worths, *, lows, highs, steps, first=0):
    """All lines of these bounds and steps that have worths seen."""
    _refuse_unseen(worths)
    for things in (lows, highs, steps):
        if not _are_unlike(things):
            raise NoWorth("lows, highs and steps are lists of unlike worths")
    if len(lows) * len(highs) * len(steps) > MOST_CHOICES:
        raise TooMany("there are more than 4,096 bounds and steps in all")
    lost, seen = _seen_of(worths)
    found = []
    for low in lows:
        for high in highs:
            for step in steps:
                found.extend(_lines_of(low, high, step, seen, first + lost))
    return found


def _lines_of(low, high, step, seen, row):
    """The lines of these bounds and this step that have worths seen, the first one at a row."""
    _, at = seen[0]
    found = []
    for up in (True, False):
        line = _line_of(low, high, step, at, up)
        # At low and at high one way only is gone on, whichever is told: so it is found but once.
        if line is not None and line.rises(0) == up and _has(line, seen):
            found.append((low, high, step, line.value(-row), line.rises(-row)))
    return found


def _line_of(low, high, step, at, up):
    """The line that is made of these; None where they make none."""
    try:
        return Line(low=low, high=high, step=step, at=at, up=up)
    except NoRule:
        return None


def _first_wrong(ring, borders, steps):
    """The name of the first of these that isn't so; None where zones can be made of them."""
    if not is_above_nought(ring):
        return "ring"
    if not are_borders(borders, ring):
        return "borders"
    if not _are_unlike(steps) or not all([is_above_nought(step) for step in steps]):
        return "steps"
    return None


def _choices(steps, many):
    """All lists of so many of these steps, by their first ones, then by their second ones, and so on."""
    count = 1
    for _ in range(many):
        count = count * len(steps)
    if count > MOST_CHOICES:
        raise TooMany("there are more than 4,096 choices of steps in all")
    choices = [[]]
    for _ in range(many):
        choices = [choice + [step] for choice in choices for step in steps]
    return choices


def zones_with(worths, *, ring, borders, steps, first=0):
    """All zones of a ring and its borders, by some of these steps, that have worths seen."""
    _refuse_unseen(worths)
    why = _first_wrong(ring, borders, steps)
    if why is not None:
        raise NoRule(why)
    choices = _choices(steps, len(borders))
    lost, seen = _seen_of(worths)
    _, at = seen[0]
    if is_less(at, NOUGHT) or not is_less(at, ring):
        return []
    found = []
    for choice in choices:
        zones = Zones(ring=ring, borders=borders, steps=choice, at=at)
        if _has(zones, seen):
            found.append((choice, zones.value(-first - lost)))
    return found


def _rows_needed(one, other):
    """In how many rows two rules part, if they ever do, that come again behind so many rows."""
    return one + other - gcd(one, other)


def _returns_of(rule):
    rows, _ = rule.returns()
    return rows


def _refuse_long(needed):
    if needed > MOST_ROWS:
        raise TooMany("they don't part in the first 5,000 rows, and may part later")


def _parting(one, other, needed, first):
    """The first row from a first one on at which two rules part, where so many rows are needed to tell."""
    for row in range(first, first + min(needed, MOST_ROWS)):
        if one.value(row) != other.value(row):
            return row
    _refuse_long(needed)
    return None


def parts_at(one, other, *, first=0):
    """The first row, from a first one on, at which two rules have unlike worths; None where they never have."""
    return _parting(one, other, _rows_needed(_returns_of(one), _returns_of(other)), first)


def _is_rule(thing):
    return isinstance(thing, Line) or isinstance(thing, Zones)


def _longest(lots, returns):
    """The most rows that are needed to tell whether two rules of one lot ever part."""
    needed = [_rows_needed(returns[one], returns[other])
              for lot in lots for at, one in enumerate(lot) for other in lot[at + 1:]]
    return max(needed, default=0)


def _parted(lots, rules, row):
    """The lots into which rules, by their numbers, fall by their worths at a row."""
    parted = []
    for lot in lots:
        by_worth = {}
        # A rule by itself need not be looked at any more.
        if len(lot) > 1:
            for number in lot:
                by_worth.setdefault(rules[number].value(row), []).append(number)
            parted.extend(list(by_worth.values()))
        else:
            parted.append(lot)
    return parted


def settled_by(rules, *, first=0):
    """In how many rows all rules that part are told apart, and the lots of those that never do."""
    if not is_list(rules, 1, MOST_RULES) or not all([_is_rule(rule) for rule in rules]):
        raise TooMany("it is asked of a list of 1 to 40 rules")
    returns = [_returns_of(rule) for rule in rules]
    lots = [list(range(len(rules)))]
    needed = _longest(lots, returns)
    many = 0
    looked = 0
    while looked < min(needed, MOST_ROWS):
        parted = _parted(lots, rules, first + looked)
        looked = looked + 1
        if len(parted) > len(lots):
            many = looked
            lots = parted
            needed = _longest(lots, returns)
    _refuse_long(needed)
    return (many, sorted(lots))


class Column:
    """A column of a table, which tells its worths as a rule does."""

    def __init__(self, table, name):
        self._table = table
        self._name = name

    def value(self, row):
        """The worth at a row."""
        return self._table.value(self._name, row)


def tables_part(one, other, *, first=0):
    """The first (row, name) at which two tables are unlike in a column that both have; None where none ever is."""
    theirs = other.names()
    names = [name for name in one.names() if name in theirs]
    if not names:
        raise NoColumn(one.names()[0])
    returns = [(one.return_of(name), other.return_of(name)) for name in names]
    if any([None in rows for rows in returns]):
        raise NoReturn("a column that both have never comes again")
    found = None
    for name, (own, others) in zip(names, returns):
        row = _parting(Column(one, name), Column(other, name), _rows_needed(own, others), first)
        if row is not None and (found is None or row < found[0]):
            found = (row, name)
    return found
