"""Darkened moons: the rows of a line that are dark, told and counted however far off, and near returns."""

from math import gcd

from tabletsky.errors import NoDark, NoRule, TooMany
from tabletsky.lines import Line
from tabletsky.sixties import is_less, is_whole_from, is_worth, minus, worth

MOST_DARK = 5000
FARTHEST = 1000000000000


def _whole_rounds(many, ring, step, start):
    """How many whole rounds of a ring there are in start and row times step, over so many rows, all added."""
    total = 0
    while many > 0:
        total = total + many * (many - 1) // 2 * (step // ring) + many * (start // ring)
        step, start = step % ring, start % ring
        # What is left rises by less than a round each row: so it is counted by rounds instead of rows,
        # for each the rows that are behind it, as Euclid's steps part two numbers.
        many, start = divmod(step * many + start, ring)
        ring, step = step, ring
    return total


def _inverse(step, ring):
    """The number that times a step leaves 1 by a ring, with which the step has no divisor above 1 in common."""
    greater, less = ring, step % ring
    by_greater, by_less = 0, 1
    while less:
        often = greater // less
        greater, less = less, greater - often * less
        by_greater, by_less = by_less, by_greater - often * by_less
    return by_greater % ring


class Turn:
    """Places on a ring of whole numbers that go on by a step each row, and stretches of it, which are dark.

    The step has no divisor above 1 in common with the ring: so it comes to each place once in a return,
    which has as many rows as the ring has places. Stretches are tuples (first, last), none over another.
    """

    def __init__(self, ring, step, start, stretches):
        self.ring = ring
        self.step = step
        self.start = start
        self.stretches = stretches
        self.dark = sum([last - first + 1 for first, last in stretches])

    def is_dark(self, row):
        """Whether the place at a row is on a stretch."""
        place = (self.start + self.step * row) % self.ring
        return any([first <= place <= last for first, last in self.stretches])

    def ahead_of(self, row):
        """How many rows are dark from row 0 on ahead of a row; below 0 where the row is."""
        returns, rows = divmod(row, self.ring)
        many = returns * self.dark
        for first, last in self.stretches:
            # A place is on the stretch where less its first one it is in another round than less its end.
            many = many + _whole_rounds(rows, self.ring, self.step, self.start - first)
            many = many - _whole_rounds(rows, self.ring, self.step, self.start - last - 1)
        return many

    def row_of(self, number):
        """The dark row ahead of which there are as many dark ones from row 0 on as a number tells."""
        width = self.ring // self.dark + 1
        first = number * self.ring // self.dark
        beyond = first + width
        while self.ahead_of(first) > number:
            first = first - width
            width = 2 * width
        while self.ahead_of(beyond) <= number:
            beyond = beyond + width
            width = 2 * width
        while beyond - first > 1:
            between = (first + beyond) // 2
            if self.ahead_of(between) <= number:
                first = between
            else:
                beyond = between
        return first

    def rows(self):
        """All dark rows of one return, rising."""
        back = _inverse(self.step, self.ring)
        rows = []
        for first, last in self.stretches:
            rows.extend([(place - self.start) * back % self.ring for place in range(first, last + 1)])
        return sorted(rows)


def _counted_gaps(rows, ring):
    """By gaps, how many there are of them between the dark rows of a return, the last one round to the first."""
    many = {}
    for row, after in zip(rows, rows[1:] + [rows[0] + ring]):
        many[after - row] = many.get(after - row, 0) + 1
    return many


def _gaps_of_one(turn):
    """The same where the dark places are one stretch, however many they are."""
    if turn.dark == 1:
        return {turn.ring: 1}
    # The least numbers of rows in which a dark place may come to another one: farther on, or back.
    on = Turn(turn.ring, turn.step, 0, [(1, turn.dark - 1)]).row_of(0)
    back = Turn(turn.ring, turn.step, 0, [(turn.ring - turn.dark + 1, turn.ring - 1)]).row_of(0)
    from_on = turn.dark - (turn.step * on) % turn.ring
    from_back = turn.dark - (-turn.step * back) % turn.ring
    # By the rule of three gaps no place can do both, and those that can do neither do one behind the other.
    many = {}
    for gap, count in ((on, from_on), (back, from_back), (on + back, turn.dark - from_on - from_back)):
        if count > 0:
            many[gap] = many.get(gap, 0) + count
    return many


def _first_wrong(line, low, high, up):
    """The name of the first of these that isn't so; None where they tell dark rows."""
    if not isinstance(line, Line):
        return "line"
    least, greatest, _, _, _ = line.made_of()
    if not is_worth(low) or is_less(low, least) or is_less(greatest, low):
        return "low"
    if not is_worth(high) or is_less(high, low) or is_less(greatest, high):
        return "high"
    if up is not None and not isinstance(up, bool):
        return "up"
    return None


def _units_from(thing, least, scale):
    """How many units a worth lies above the line's least one: the most below it, the least above it."""
    top, bottom = minus(thing, least)
    return top * scale // bottom, -(-top * scale // bottom)


def _dark_stretches(line, low, high, up):
    """The stretches of a line's ring where it is dark, in its units; some may have no place."""
    _, _, ring, scale = line.turn()
    least = line.made_of()[0]
    _, first = _units_from(low, least, scale)
    last, _ = _units_from(high, least, scale)
    rising = (first, min(last, ring // 2 - 1))
    falling = (ring - last, min(ring - first, ring - 1))
    if up is None:
        return [rising, falling]
    return [rising if up else falling]


def _turn_of(line, low, high, up):
    """The places of a line that it comes to, numbered in order, and those of them that are dark."""
    start, step, ring, _ = line.turn()
    shared = gcd(step, ring)
    offset = start % shared
    stretches = []
    for first, last in _dark_stretches(line, low, high, up):
        begin, end = -((offset - first) // shared), (last - offset) // shared
        if begin <= end:
            stretches.append((begin, end))
    return Turn(ring // shared, step // shared, start // shared, stretches)


class Dark:
    """The dark rows of a line: those at which its worth lies between two bounds, in a way where one is told."""

    def __init__(self, line, *, low, high, up=None):
        why = _first_wrong(line, low, high, up)
        if why is not None:
            raise NoRule(why)
        self._turn = _turn_of(line, low, high, up)
        self._either_way = up is None

    def _refuse_none(self):
        if self._turn.dark == 0:
            raise NoDark("no row is dark")

    def is_dark(self, row):
        """Whether a row is dark."""
        return self._turn.is_dark(row)

    def next_dark(self, row):
        """The first dark row from a row on."""
        return self.nth(self._turn.ahead_of(row))

    def last_dark(self, row):
        """The last dark row up to a row."""
        return self.nth(self._turn.ahead_of(row + 1) - 1)

    def how_many(self, first, last):
        """How many rows are dark from one to another."""
        return max(0, self._turn.ahead_of(last + 1) - self._turn.ahead_of(first))

    def nth(self, number):
        """The dark row of a number."""
        self._refuse_none()
        return self._turn.row_of(number)

    def number_of(self, row):
        """The number of a dark row."""
        if not self.is_dark(row):
            raise NoDark("the row isn't dark")
        return self._turn.ahead_of(row)

    def gaps(self):
        """By how many rows it is from a dark row to the next one, and from how many of a return it is so."""
        self._refuse_none()
        if not self._either_way:
            many = _gaps_of_one(self._turn)
        elif self._turn.dark > MOST_DARK:
            raise TooMany("a return has more than 5,000 dark rows")
        else:
            many = _counted_gaps(self._turn.rows(), self._turn.ring)
        return sorted([(gap, count) for gap, count in many.items()])


def near_returns(line, *, most):
    """Each number of rows up to most that comes nearer to whole ups and downs than all lesser ones, and how far off."""
    if not isinstance(line, Line):
        raise NoRule("line")
    if not is_whole_from(most, 1, FARTHEST):
        raise NoRule("most")
    _, step, ring, scale = line.turn()
    found = []
    # As Euclid parts two numbers: none of fewer rows comes nearer than these do. A step is no more than
    # half the ring, so the first row is off by just this.
    before, rows = 0, 1
    off_before, off = -ring, step
    while rows <= most:
        found.append((rows, worth(off, scale)))
        if off == 0:
            break
        often = abs(off_before) // abs(off)
        before, rows = rows, before + often * rows
        off_before, off = off, off_before + often * off
    return found
