"""Months: rounds of years, in some of which a month stands twice, and the days on which months begin."""

from tabletsky.errors import NoDay, NoMonth, NoReturn, NoRule, NoWorth, TooMany
from tabletsky.kinds import is_one_of, is_tuple
from tabletsky.lines import MOST_ROWS, NOUGHT, Line
from tabletsky.sixties import is_less, is_whole, is_whole_from, is_worth, minus, over, worth
from tabletsky.tables import Table

MOST_YEARS = 1000
MONTHS = 12
ONE = (1, 1)


def _is_doubled(thing, years):
    """Whether a thing is a tuple of a year of a round and a month."""
    return is_tuple(thing, 2) and is_whole_from(thing[0], 0, years - 1) and is_whole_from(thing[1], 1, MONTHS)


def _are_doubled(thing, years):
    """Whether a thing is a list of the months that stand twice, their years rising."""
    if not isinstance(thing, list) or not all([_is_doubled(one, years) for one in thing]):
        return False
    return all([one[0] < other[0] for one, other in zip(thing, thing[1:])])


class Round:
    """A round of years, told for each year, however far ahead or behind.

    The months of one round are kept in order, and for each of its years the number of the first one.
    """

    def __init__(self, *, years, doubled):
        if not is_whole_from(years, 1, MOST_YEARS):
            raise NoRule("years")
        if not _are_doubled(doubled, years):
            raise NoRule("doubled")
        twice = dict(doubled)
        self._years = years
        self._months = []
        self._firsts = []
        for year in range(years):
            self._firsts.append(len(self._months))
            for month in range(1, MONTHS + 1):
                self._months.append((year, month, False))
                if twice.get(year) == month:
                    self._months.append((year, month, True))

    def years(self):
        """How many years there are in a round."""
        return self._years

    def in_all(self):
        """How many months there are in a round."""
        return len(self._months)

    def begins(self, year):
        """The number of a year's first month."""
        rounds, left = divmod(year, self._years)
        return rounds * len(self._months) + self._firsts[left]

    def months_of(self, year):
        """The months of a year, tuples (month, second)."""
        first = self._firsts[year % self._years]
        many = self.begins(year + 1) - self.begins(year)
        return [(month, second) for _, month, second in self._months[first:first + many]]

    def number_of(self, year, month, *, second=False):
        """The number of a year's month."""
        # To == a truth is a number, so 0 and 1 would be found where truths are.
        if not is_whole(year) or not is_whole(month) or not isinstance(second, bool):
            raise NoMonth("it is asked of a year, a month and a truth")
        months = self.months_of(year)
        if (month, second) not in months:
            raise NoMonth("the year has no such month")
        return self.begins(year) + months.index((month, second))

    def month_at(self, number):
        """The tuple (year, month, second) of a month's number."""
        rounds, left = divmod(number, len(self._months))
        year, month, second = self._months[left]
        return (rounds * self._years + year, month, second)


def _first_wrong_even(years, many, month, shift):
    """The name of the first of these that isn't so; None where they make a round."""
    if not is_whole_from(years, 1, MOST_YEARS):
        return "years"
    if not is_whole_from(many, 0, years):
        return "many"
    if not is_whole_from(month, 1, MONTHS):
        return "month"
    if not is_whole_from(shift, 0, years - 1):
        return "shift"
    return None


def even_round(*, years, many, month=12, shift=0):
    """The round in so many years of which a month stands twice, as evenly as can be."""
    why = _first_wrong_even(years, many, month, shift)
    if why is not None:
        raise NoRule(why)
    return Round(years=years, doubled=[(year, month) for year in range(years) if (many * year + shift) % years < many])


def strays(cycle, *, length):
    """The least and the greatest by which years begin behind years of a length in months."""
    if not is_worth(length):
        raise NoWorth("the length of a year is a worth")
    years, months = cycle.years(), cycle.in_all()
    if length != worth(months, years):
        raise NoReturn("years of this length don't come again with the round")
    # Counted in parts of a month, so many of which as there are years make one.
    parts = [cycle.begins(year) * years - months * year for year in range(years)]
    return (worth(min(parts), years), worth(max(parts), years))


def _line_along(table, name):
    """The line, its low 1 at least, that a table's column is along; None where there is none."""
    if not is_one_of(name, table.names()):
        return None
    made = table.rule_of(name)
    if not isinstance(made, tuple) or made[0] != "along":
        return None
    source = table.rule_of(made[1])
    if not isinstance(source, Line) or is_less(source.made_of()[0], ONE):
        return None
    return source


def _first_wrong_days(cycle, table, name, dusk):
    """The name of the first of these that isn't so; None where they make days."""
    if not isinstance(cycle, Round):
        return "cycle"
    if not isinstance(table, Table):
        return "table"
    if _line_along(table, name) is None:
        return "name"
    if not is_worth(dusk) or is_less(dusk, NOUGHT) or not is_less(dusk, ONE):
        return "dusk"
    return None


class Days:
    """The days on which the months of a round begin, by the moments at which a table tells that they are new."""

    def __init__(self, cycle, table, *, name, dusk=(3, 4)):
        why = _first_wrong_days(cycle, table, name, dusk)
        if why is not None:
            raise NoRule(why)
        rows, _ = _line_along(table, name).returns()
        if rows > MOST_ROWS:
            raise TooMany("the line comes again behind more than 5,000 rows")
        self._cycle = cycle
        self._table = table
        self._name = name
        self._dusk = dusk
        self._rows = rows

    def _moment(self, number):
        """The moment at which the month of a number is new."""
        return self._table.value(self._name, number)

    def first_day(self, number):
        """The day on which the month of a number begins."""
        top, bottom = minus(self._moment(number), self._dusk)
        return -(-top // bottom)

    def days_in(self, number):
        """How many days the month of a number has."""
        return self.first_day(number + 1) - self.first_day(number)

    def lengths_of(self, year):
        """How many days each of the months of a year has."""
        begin, end = self._cycle.begins(year), self._cycle.begins(year + 1)
        firsts = [self.first_day(number) for number in range(begin, end + 1)]
        return [after - first for first, after in zip(firsts, firsts[1:])]

    def day_of(self, year, month, day, *, second=False):
        """The number of the day of a date."""
        number = self._cycle.number_of(year, month, second=second)
        if not is_whole_from(day, 1, self.days_in(number)):
            raise NoDay("the month has no such day")
        return self.first_day(number) + day - 1

    def date_of(self, day):
        """The tuple (year, month, second, day) of a day's number."""
        number = self._month_of(day)
        year, month, second = self._cycle.month_at(number)
        return (year, month, second, day - self.first_day(number) + 1)

    def _month_of(self, day):
        """The number of the month that has a day."""
        begin = self._moment(0)
        once = minus(self._moment(self._rows), begin)
        top, bottom = over(minus(worth(day), begin), once)
        # A month that is new no later than the day begins no later, either. The last one by whole returns
        # that is so is first; a return behind it one is new later, and may begin on the day by its dusk,
        # but the next one is new a day later at least, and can't.
        first = top // bottom * self._rows
        beyond = first + self._rows + 1
        while beyond - first > 1:
            between = (first + beyond) // 2
            if self.first_day(between) <= day:
                first = between
            else:
                beyond = between
        return first
