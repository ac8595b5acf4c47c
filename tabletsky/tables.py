"""Tables: columns, each a line, zones, or made of columns ahead of it."""

from math import lcm

from tabletsky.errors import NoColumn, NoReturn, NoRule, TooMany
from tabletsky.kinds import is_list, is_name, is_one_of, is_tuple
from tabletsky.lines import MOST_ROWS, Line
from tabletsky.sixties import is_less, is_worth, minus, over, plus, times, worth
from tabletsky.zones import Zones

MOST_COLUMNS = 12
MOST_CORNERS = 12


def _are_corners(thing):
    """Whether a thing is a list of corners, the worths for which they tell others rising."""
    if not is_list(thing, 2, MOST_CORNERS):
        return False
    for corner in thing:
        if not is_tuple(corner, 2) or not is_worth(corner[0]) or not is_worth(corner[1]):
            return False
    return all([is_less(one[0], other[0]) for one, other in zip(thing, thing[1:])])


def _is_made(thing, ahead):
    """Whether a thing makes a column behind those of the names ahead."""
    if isinstance(thing, Line) or isinstance(thing, Zones):
        return True
    if not is_tuple(thing, 3) or not is_one_of(thing[1], ahead):
        return False
    kind, _, more = thing
    if is_one_of(kind, ("sum", "less")):
        return is_one_of(more, ahead)
    if is_one_of(kind, ("times", "along")):
        return is_worth(more)
    return is_one_of(kind, ("by",)) and _are_corners(more)


def is_column(thing, ahead):
    """Whether a thing is a column behind those of the names ahead."""
    if not is_tuple(thing, 2):
        return False
    name, made = thing
    return is_name(name) and name not in ahead and _is_made(made, ahead)


def _first_wrong(columns):
    """What of these columns isn't so; None where they make a table."""
    if not is_list(columns, 1, MOST_COLUMNS):
        return "columns"
    ahead = []
    for at, column in enumerate(columns):
        if not is_column(column, ahead):
            return at
        ahead.append(column[0])
    return None


def _own(made):
    """What makes a column, with a list of corners of its own."""
    if isinstance(made, tuple) and made[0] == "by":
        kind, source, corners = made
        return (kind, source, list(corners))
    return made


def _by_corners(thing, corners):
    """The worth for a thing's on the straight lines through corners."""
    # The lines at both ends go on, so it's the inner corners alone that part them.
    at = len([corner for corner in corners[1:-1] if not is_less(thing, corner[0])])
    low, high = corners[at], corners[at + 1]
    slope = over(minus(high[1], low[1]), minus(high[0], low[0]))
    return plus(low[1], times(minus(thing, low[0]), slope))


def shared_return(returns):
    """The least number that all these divide; None where one of these is None."""
    shared = 1
    for rows in returns:
        if rows is None:
            return None
        shared = lcm(shared, rows)
    return shared


class Table:
    """Columns, each of which is told for each row.

    Of a column along, the worths from row 0 on, and from row 0 back, are kept as far as they
    were asked for: each is told of the one ahead of it.
    """

    def __init__(self, columns):
        why = _first_wrong(columns)
        if why is not None:
            raise NoRule(why)
        self._rules = {name: _own(made) for name, made in columns}
        self._ahead = {}
        self._behind = {}
        for name, made in columns:
            if isinstance(made, tuple) and made[0] == "along":
                self._ahead[name] = [made[2]]
                self._behind[name] = [made[2]]
        self._returns = {}

    def names(self):
        """The names of the columns, in order."""
        return list(self._rules)

    def _refuse_others(self, name):
        if not is_one_of(name, self._rules):
            raise NoColumn(name)

    def rule_of(self, name):
        """What makes a column."""
        self._refuse_others(name)
        return _own(self._rules[name])

    def value(self, name, row):
        """The worth of a column at a row."""
        self._refuse_others(name)
        return self._worth(name, row, {})

    def line(self, row):
        """The worths of all columns at a row, in their order."""
        told = {}
        return [self._worth(name, row, told) for name in self._rules]

    def _worth(self, name, row, told):
        """The worth of a column at a row; told keeps those of this row, so that each is made once."""
        if name not in told:
            told[name] = self._made(self._rules[name], name, row, told)
        return told[name]

    def _made(self, rule, name, row, told):
        if not isinstance(rule, tuple):
            return rule.value(row)
        kind, source, more = rule
        if kind == "along":
            return self._along(name, row)
        first = self._worth(source, row, told)
        if kind == "sum":
            return plus(first, self._worth(more, row, told))
        if kind == "less":
            return minus(first, self._worth(more, row, told))
        if kind == "times":
            return times(first, more)
        return _by_corners(first, more)

    def _along(self, name, row):
        """The worth of a column along: of a far row by whole returns, and what is left."""
        if abs(row) <= MOST_ROWS:
            return self._near(name, row)
        rows = self._again(self._rules[name][1])
        if rows is None or rows > MOST_ROWS:
            raise TooMany("a column along is told up to 5,000 rows from row 0")
        rounds, left = divmod(row, rows)
        once = minus(self._near(name, rows), self._near(name, 0))
        return plus(times(once, worth(rounds)), self._near(name, left))

    def _near(self, name, row):
        """The worth of a column along at a row up to 5,000 rows from row 0."""
        source = self._rules[name][1]
        if row >= 0:
            way = self._ahead[name]
            while len(way) <= row:
                way.append(plus(way[-1], self._worth(source, len(way) - 1, {})))
        else:
            way = self._behind[name]
            while len(way) <= -row:
                way.append(minus(way[-1], self._worth(source, -len(way), {})))
        return way[abs(row)]

    def return_of(self, name):
        """The number of rows behind which a column comes again; None where it never does."""
        self._refuse_others(name)
        return self._again(name)

    def _again(self, name):
        """return_of, reckoned once for each column."""
        if name not in self._returns:
            self._returns[name] = self._reckoned(self._rules[name], name)
        return self._returns[name]

    def _reckoned(self, rule, name):
        if not isinstance(rule, tuple):
            rows, _ = rule.returns()
            return rows
        kind, source, more = rule
        if kind == "along":
            return self._again_along(name, self._again(source))
        if kind in ("sum", "less"):
            return shared_return([self._again(source), self._again(more)])
        return self._again(source)

    def _again_along(self, name, rows):
        """The return of a column along one that comes again behind so many rows."""
        if rows is None:
            return None
        if rows > MOST_ROWS:
            raise TooMany("the sum of more than 5,000 rows would be needed")
        # Where it has over a return what it had at row 0, what it went along comes to nothing.
        return rows if self._near(name, rows) == self._near(name, 0) else None

    def returns(self):
        """The least number that the returns of all columns divide."""
        rows = shared_return([self._again(name) for name in self._rules])
        if rows is None:
            raise NoReturn("a column never comes again")
        return rows
