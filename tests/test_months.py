"""Points 31 to 34: months and days; points 2 and 3 as they hold for these."""

import unittest
from fractions import Fraction
from itertools import product
from math import ceil

from helpers import FAR, NO_WORTHS, ODD_THINGS, counted, fraction_of, soon, worth_of
from tabletsky.errors import NoDay, NoMonth, NoReturn, NoRule, NoWorth, TooMany
from tabletsky.lines import Line
from tabletsky.months import Days, Round, even_round, strays
from tabletsky.tables import Table

NO_WHOLES = (None, True, False, "1", "", b"1", [], [1], (), (1,), {}, {1}, object())
# Of years 0 and 2 the last month stands twice, of year 3 the sixth one.
DOUBLED = [(0, 12), (2, 12), (3, 6)]
CYCLE = Round(years=5, doubled=DOUBLED)
PLAIN = [(month, False) for month in range(1, 13)]


def months_by_words(years, doubled, year):
    """The months of a year by the words of point 31."""
    twice = dict(doubled).get(year % years)
    return [some for month in range(1, 13) for some in [(month, False)] + [(month, True)] * (month == twice)]


class OfRounds(unittest.TestCase):
    """Points 31 and 32: rounds, and their months."""

    def test_months_of_years(self):
        self.assertEqual(CYCLE.months_of(1), PLAIN)
        self.assertEqual(CYCLE.months_of(0), PLAIN + [(12, True)])
        self.assertEqual(CYCLE.months_of(3), PLAIN[:6] + [(6, True)] + PLAIN[6:])
        self.assertEqual(Round(years=1, doubled=[(0, 1)]).months_of(7), [(1, False), (1, True)] + PLAIN[1:])
        for _, second in CYCLE.months_of(0):
            self.assertIs(type(second), bool)

    def test_years_below_nought_and_behind_the_round(self):
        for year in range(-13, 14):
            self.assertEqual(CYCLE.months_of(year), months_by_words(5, DOUBLED, year))
        self.assertEqual(CYCLE.months_of(-2), CYCLE.months_of(3))
        self.assertEqual(CYCLE.months_of(FAR + 2), CYCLE.months_of(2))
        self.assertEqual(CYCLE.months_of(-FAR), CYCLE.months_of(0))

    def test_how_many_months(self):
        self.assertEqual(CYCLE.in_all(), 63)
        self.assertEqual(Round(years=1, doubled=[]).in_all(), 12)
        self.assertEqual(Round(years=1000, doubled=[]).in_all(), 12000)
        self.assertEqual(Round(years=1000, doubled=[(year, 6) for year in range(1000)]).in_all(), 13000)

    def test_where_years_begin(self):
        self.assertEqual([CYCLE.begins(year) for year in range(-2, 8)], [-25, -12, 0, 13, 25, 38, 51, 63, 76, 88])
        with soon():
            self.assertEqual(CYCLE.begins(FAR + 1), FAR // 5 * 63 + 13)
            self.assertEqual(CYCLE.begins(-FAR - 1), -FAR // 5 * 63 - 12)

    def test_numbers_and_months_one_the_other_s_way_back(self):
        number = CYCLE.begins(-7)
        for year in range(-7, 8):
            for month, second in months_by_words(5, DOUBLED, year):
                self.assertEqual(CYCLE.number_of(year, month, second=second), number)
                self.assertEqual(CYCLE.month_at(number), (year, month, second))
                number += 1
        self.assertEqual(number, CYCLE.begins(8))

    def test_the_month_that_stands_twice(self):
        self.assertEqual(CYCLE.number_of(0, 12), 11)
        self.assertEqual(CYCLE.number_of(0, 12, second=False), 11)
        self.assertEqual(CYCLE.number_of(0, 12, second=True), 12)
        self.assertEqual(CYCLE.number_of(3, 6, second=True), CYCLE.number_of(3, 7) - 1)
        self.assertEqual((CYCLE.month_at(11), CYCLE.month_at(12)), ((0, 12, False), (0, 12, True)))
        self.assertIs(type(CYCLE.month_at(12)[2]), bool)

    def test_far_ahead_and_behind(self):
        with soon():
            for year in (FAR, -FAR, FAR - 3, -FAR + 2):
                for month, second in months_by_words(5, DOUBLED, year):
                    number = CYCLE.number_of(year, month, second=second)
                    self.assertEqual(CYCLE.month_at(number), (year, month, second))
            for number in (FAR, -FAR, FAR + 17):
                year, month, second = CYCLE.month_at(number)
                self.assertEqual(CYCLE.number_of(year, month, second=second), number)

    def test_what_is_no_month(self):
        for month in (*NO_WHOLES, 0, 13, -1, FAR):
            for second in (False, True):
                with self.subTest(month=month), self.assertRaises(NoMonth):
                    CYCLE.number_of(0, month, second=second)

    def test_what_is_no_year(self):
        for year in NO_WHOLES:
            with self.subTest(year=year), self.assertRaises(NoMonth):
                CYCLE.number_of(year, 1)

    def test_a_second_where_the_month_stands_once(self):
        for year, month in ((0, 11), (0, 1), (1, 12), (3, 12), (3, 5), (4, 6), (-5, 6)):
            with self.assertRaises(NoMonth):
                CYCLE.number_of(year, month, second=True)
        self.assertEqual(CYCLE.number_of(-5, 12, second=True), -51)

    def test_a_second_that_is_no_truth(self):
        for second in (None, 0, 1, 2, -1, "", "True", [], [True], (), {}, object()):
            with self.subTest(second=second), self.assertRaises(NoMonth):
                CYCLE.number_of(0, 12, second=second)

    def test_lists_that_were_handed_in_or_told(self):
        doubled = list(DOUBLED)
        cycle = Round(years=5, doubled=doubled)
        self.assertEqual(doubled, DOUBLED)
        doubled.clear()
        told = cycle.months_of(0)
        told.clear()
        self.assertEqual((cycle.months_of(0), cycle.in_all()), (PLAIN + [(12, True)], 63))

    def test_how_it_is_handed_in(self):
        with self.assertRaises(TypeError):
            Round(5, [])
        with self.assertRaises(TypeError):
            CYCLE.number_of(0, 12, True)
        self.assertEqual(Round(doubled=DOUBLED, years=5).number_of(second=True, month=12, year=0), 12)
        self.assertEqual(CYCLE.months_of(year=1), PLAIN)
        self.assertEqual((CYCLE.begins(year=1), CYCLE.month_at(number=13)), (13, (1, 1, False)))


class OfRefusedRounds(unittest.TestCase):
    """Point 31: what is no round."""

    def why_of(self, years, doubled):
        with self.assertRaises(NoRule) as caught:
            Round(years=years, doubled=doubled)
        return caught.exception.why

    def test_years(self):
        for years in (*NO_WHOLES, 0, 1001, -1, FAR, -FAR):
            with self.subTest(years=years):
                self.assertEqual(self.why_of(years, []), "years")
        for years in (1, 1000):
            self.assertEqual(Round(years=years, doubled=[(years - 1, 1)]).in_all(), 12 * years + 1)

    def test_doubled(self):
        for doubled in (*ODD_THINGS, ((0, 12),), {0: 12}, [None], [0], [[0, 12]], [(0,)], [(0, 12, False)],
                        [(2, 12), (0, 12)], [(0, 12), (0, 12)], [(0, 11), (0, 12)], [(5, 12)], [(-1, 12)], [(0, 0)],
                        [(0, 13)], [(0, -1)], [(False, 12)], [(0, True)], [("0", 12)], [(0, "12")], [(0, None)],
                        [(0, 12), (2, 12), (1, 12)], [(0, 12), (2, 13)], [(FAR, 1)]):
            with self.subTest(doubled=doubled):
                self.assertEqual(self.why_of(5, doubled), "doubled")

    def test_years_ahead_of_doubled(self):
        for years in (0, 1001, None, True):
            self.assertEqual(self.why_of(years, None), "years")
            self.assertEqual(self.why_of(years, [(0, 13)]), "years")


def doubled_in(cycle, years):
    """The doubled months of a round, as it tells them itself."""
    return [(year, month) for year in range(years) for month, second in cycle.months_of(year) if second]


class OfEvenRounds(unittest.TestCase):
    """Point 33."""

    def test_seven_of_nineteen(self):
        cycle = even_round(years=19, many=7)
        self.assertEqual([year for year, _ in doubled_in(cycle, 19)], [0, 3, 6, 9, 11, 14, 17])
        self.assertEqual({month for _, month in doubled_in(cycle, 19)}, {12})
        self.assertEqual((cycle.in_all(), type(cycle)), (235, Round))

    def test_none_and_all(self):
        for years in (1, 2, 19, 1000):
            self.assertEqual(doubled_in(even_round(years=years, many=0), years), [])
            self.assertEqual(doubled_in(even_round(years=years, many=years, month=3), years),
                             [(year, 3) for year in range(years)])

    def test_by_the_words_of_the_document(self):
        for years in (1, 2, 3, 8, 19):
            for many, shift in product(range(years + 1), range(years)):
                month = (many + shift) % 12 + 1
                cycle = even_round(years=years, many=many, month=month, shift=shift)
                told = [(year, month) for year in range(years) if (many * year + shift) % years < many]
                self.assertEqual(doubled_in(cycle, years), told)
                self.assertEqual(len(told), many)

    def test_shift_nought_and_the_last_one(self):
        self.assertEqual(doubled_in(even_round(years=5, many=2, shift=0), 5),
                         doubled_in(even_round(years=5, many=2), 5))
        self.assertEqual([year for year, _ in doubled_in(even_round(years=5, many=2), 5)], [0, 3])
        self.assertEqual([year for year, _ in doubled_in(even_round(years=5, many=2, shift=4), 5)], [1, 3])

    def why_of(self, **told):
        with self.assertRaises(NoRule) as caught:
            even_round(**{"years": 5, "many": 2, "month": 12, "shift": 0, **told})
        return caught.exception.why

    def test_what_is_none(self):
        wrong = {"years": (0, 1001, -1, FAR), "many": (-1, 6, FAR), "month": (0, 13, -1), "shift": (-1, 5, 6, FAR)}
        for name, things in wrong.items():
            for thing in (*things, *NO_WHOLES):
                with self.subTest(name=name, thing=thing):
                    self.assertEqual(self.why_of(**{name: thing}), name)

    def test_the_first_that_is_not_so(self):
        names = ["years", "many", "month", "shift"]
        for at, name in enumerate(names):
            self.assertEqual(self.why_of(**{later: None for later in names[at:]}), name)
        self.assertEqual(self.why_of(years=1, many=2, shift=1), "many")
        self.assertEqual(self.why_of(years=1, many=1, month=13, shift=1), "month")
        self.assertEqual(self.why_of(years=1, many=1, shift=1), "shift")

    def test_how_it_is_handed_in(self):
        with self.assertRaises(TypeError):
            even_round(19, 7)
        self.assertEqual(even_round(shift=1, month=6, many=1, years=2).in_all(), 25)


class OfStrays(unittest.TestCase):
    """Point 33."""

    def by_words(self, cycle, years):
        length = Fraction(cycle.in_all(), years)
        left = [cycle.begins(year) - length * year for year in range(-years, 3 * years)]
        return (worth_of(min(left)), worth_of(max(left)))

    def test_a_round(self):
        # It begins at 0, 13, 25, 38 and 51 months, and years of 63 fifths at 0, 12.6, 25.2, 37.8 and 50.4.
        self.assertEqual(strays(CYCLE, length=(63, 5)), ((-1, 5), (3, 5)))
        self.assertEqual(strays(Round(years=5, doubled=[]), length=(12, 1)), ((0, 1), (0, 1)))
        self.assertEqual(strays(Round(years=4, doubled=[(0, 1), (1, 1), (3, 1)]), length=(51, 4)), ((-1, 4), (1, 2)))
        self.assertEqual(strays(Round(years=3, doubled=[(2, 1)]), length=(37, 3)), ((-2, 3), (0, 1)))

    def test_by_the_words_of_the_document(self):
        for years in (1, 2, 5, 7):
            for doubled in (range(0), range(years), range(0, years, 2), range(years // 2), range(years - 1, years)):
                cycle = Round(years=years, doubled=[(year, 7) for year in doubled])
                length = worth_of(Fraction(cycle.in_all(), years))
                self.assertEqual(strays(cycle, length=length), self.by_words(cycle, years))

    def test_of_an_even_round_by_less_than_one(self):
        for years in (1, 2, 3, 8, 19, 25):
            for many, shift in product(range(years + 1), range(0, years, 3)):
                cycle = even_round(years=years, many=many, shift=shift)
                least, greatest = strays(cycle, length=worth_of(Fraction(12 * years + many, years)))
                self.assertEqual((least, greatest), self.by_words(cycle, years))
                self.assertLess(fraction_of(greatest) - fraction_of(least), 1)

    def test_what_is_no_worth(self):
        for length in NO_WORTHS:
            with self.subTest(length=length), self.assertRaises(NoWorth):
                strays(CYCLE, length=length)

    def test_a_length_that_is_not_the_round_s(self):
        for length in ((63, 1), (12, 1), (13, 1), (5, 63), (-63, 5), (0, 1), (62, 5), (64, 5), (FAR, 1)):
            with self.assertRaises(NoReturn):
                strays(CYCLE, length=length)

    def test_how_it_is_handed_in(self):
        with self.assertRaises(TypeError):
            strays(CYCLE, (63, 5))
        self.assertEqual(strays(length=(63, 5), cycle=CYCLE), ((-1, 5), (3, 5)))


# Months of 29 and a quarter days to 29 and three quarters; behind 10 rows they come again.
LONGER = Line(low=(117, 4), high=(119, 4), step=(1, 10), at=(117, 4))
TABLE = Table([("long", LONGER), ("new", ("along", "long", (1, 2))), ("twice", ("times", "long", (2, 1))),
               ("far", ("along", "twice", (0, 1))), ("day", counted(30)), ("days", ("along", "day", (0, 1))),
               ("short", Line(low=(99, 100), high=(2, 1), step=(1, 2), at=(1, 1))),
               ("shorts", ("along", "short", (0, 1))),
               ("least", Line(low=(1, 1), high=(2, 1), step=(1, 2), at=(1, 1))),
               ("leasts", ("along", "least", (0, 1)))])
DAYS = Days(CYCLE, TABLE, name="new")


def moments(line, at, rows):
    """The moments of a column along a line by the words of point 12."""
    told = {0: at}
    for row in range(max(rows)):
        told[row + 1] = told[row] + fraction_of(line.value(row))
    for row in range(0, min(rows), -1):
        told[row - 1] = told[row] - fraction_of(line.value(row - 1))
    return told


def first_by_words(moment, dusk):
    """The least whole number that with dusk added is no less than the moment."""
    return next(day for day in range(ceil(moment) - 3, ceil(moment) + 3) if day + dusk >= moment)


class OfDays(unittest.TestCase):
    """Point 34."""

    def test_the_first_days_of_months(self):
        self.assertEqual([DAYS.first_day(number) for number in range(5)], [0, 29, 59, 88, 118])
        self.assertEqual([DAYS.days_in(number) for number in range(4)], [29, 30, 29, 30])

    def test_by_the_words_of_the_document(self):
        told = moments(LONGER, Fraction(1, 2), range(-80, 81))
        for dusk in ((0, 1), (3, 4), (1, 2), (1, 3), (999, 1000), (FAR - 1, FAR)):
            days = Days(CYCLE, TABLE, name="new", dusk=dusk)
            for number in range(-80, 80):
                first = first_by_words(told[number], fraction_of(dusk))
                self.assertEqual(days.first_day(number), first)
                self.assertEqual(days.days_in(number), first_by_words(told[number + 1], fraction_of(dusk)) - first)

    def test_three_quarters_where_dusk_is_not_told(self):
        days = Days(CYCLE, TABLE, name="new", dusk=(3, 4))
        for number in range(-60, 60):
            self.assertEqual(DAYS.first_day(number), days.first_day(number))
        self.assertEqual(Days(CYCLE, TABLE, name="new", dusk=(0, 1)).first_day(0), 1)

    def moment_at(self, at, dusk):
        """The first day of month 0, which is new at a moment."""
        table = Table([("a", LONGER), ("new", ("along", "a", at))])
        return Days(CYCLE, table, name="new", dusk=dusk).first_day(0)

    def test_a_moment_just_at_a_day_s_dusk_and_just_behind_it(self):
        self.assertEqual(self.moment_at((3, 4), (3, 4)), 0)
        self.assertEqual(self.moment_at((3 * 10 ** 12 + 1, 4 * 10 ** 12), (3, 4)), 1)
        self.assertEqual(self.moment_at((3 * 10 ** 12 - 1, 4 * 10 ** 12), (3, 4)), 0)
        self.assertEqual(self.moment_at((0, 1), (0, 1)), 0)
        self.assertEqual(self.moment_at((1, FAR), (0, 1)), 1)
        self.assertEqual(self.moment_at((-1, FAR), (0, 1)), 0)
        self.assertEqual(self.moment_at((-5, 4), (3, 4)), -2)
        self.assertEqual(self.moment_at((-5 * 10 ** 12 + 1, 4 * 10 ** 12), (3, 4)), -1)
        self.assertEqual(self.moment_at((1, 1), (FAR - 1, FAR)), 1)
        self.assertEqual(self.moment_at((FAR - 1, FAR), (FAR - 1, FAR)), 0)

    def test_each_month_has_a_day(self):
        days = Days(CYCLE, TABLE, name="leasts")
        self.assertEqual({days.days_in(number) for number in range(-50, 50)}, {1, 2})

    def test_lengths_of_years(self):
        for year in (*range(-6, 7), FAR, -FAR):
            begin = CYCLE.begins(year)
            told = [DAYS.days_in(begin + at) for at in range(len(CYCLE.months_of(year)))]
            self.assertEqual(DAYS.lengths_of(year), told)
        self.assertEqual((len(DAYS.lengths_of(0)), len(DAYS.lengths_of(1))), (13, 12))

    def test_days_of_dates(self):
        self.assertEqual(DAYS.day_of(0, 1, 1), 0)
        self.assertEqual(DAYS.day_of(0, 2, 30), 58)
        self.assertEqual(DAYS.day_of(0, 12, 1, second=True), DAYS.first_day(12))
        self.assertEqual(DAYS.day_of(0, 12, 1, second=False), DAYS.first_day(11))
        self.assertEqual(DAYS.day_of(-1, 12, DAYS.days_in(-1)), -1)

    def test_dates_and_days_one_the_other_s_way_back(self):
        dates = []
        for year in range(-3, 4):
            for (month, second), many in zip(CYCLE.months_of(year), DAYS.lengths_of(year)):
                dates += [(year, month, second, day) for day in range(1, many + 1)]
        first = DAYS.day_of(-3, 1, 1)
        for number, (year, month, second, day) in enumerate(dates, first):
            self.assertEqual(DAYS.date_of(number), (year, month, second, day))
            self.assertEqual(DAYS.day_of(year, month, day, second=second), number)

    def test_the_date_of_the_day_ahead_of_a_month_s_first(self):
        for number in range(-30, 30):
            year, month, second = CYCLE.month_at(number - 1)
            self.assertEqual(DAYS.date_of(DAYS.first_day(number) - 1),
                             (year, month, second, DAYS.days_in(number - 1)))
            self.assertEqual(DAYS.date_of(DAYS.first_day(number)), (*CYCLE.month_at(number), 1))

    def test_dates_of_all_days_by_several_dusks(self):
        for name, dusk in product(("new", "leasts"), ((0, 1), (999, 1000), (1, 2))):
            days = Days(CYCLE, TABLE, name=name, dusk=dusk)
            for day in range(-99, 200):
                year, month, second, at = days.date_of(day)
                number = CYCLE.number_of(year, month, second=second)
                self.assertEqual(days.first_day(number) + at - 1, day)
                self.assertTrue(1 <= at <= days.days_in(number))

    def test_far_off(self):
        with soon():
            for number in (FAR, -FAR):
                # Behind 10 months they come again, of 295 days in all.
                self.assertEqual(DAYS.first_day(number), number // 10 * 295)
                self.assertEqual(DAYS.days_in(number), 29)
                year, month, second = CYCLE.month_at(number)
                self.assertEqual(DAYS.day_of(year, month, 29, second=second), number // 10 * 295 + 28)
                self.assertEqual(DAYS.date_of(number // 10 * 295 + 28), (year, month, second, 29))
                self.assertEqual(DAYS.date_of(number // 10 * 295 - 1)[3], DAYS.days_in(number - 1))
            for day in (FAR, -FAR, FAR - 1, 10 ** 14):
                year, month, second, at = DAYS.date_of(day)
                self.assertEqual(DAYS.day_of(year, month, at, second=second), day)

    def test_what_is_no_month(self):
        for told in ((0, 13, 1), (0, 0, 1), (None, 1, 1), (0, None, 1), (True, 1, 1), (0, True, 1)):
            with self.assertRaises(NoMonth):
                DAYS.day_of(*told)
        for second in (None, 0, 1, "no"):
            with self.assertRaises(NoMonth):
                DAYS.day_of(0, 12, 1, second=second)
        with self.assertRaises(NoMonth):
            DAYS.day_of(1, 12, 1, second=True)

    def test_what_is_no_day(self):
        for day in (*NO_WHOLES, 0, -1, 31, FAR):
            with self.subTest(day=day), self.assertRaises(NoDay):
                DAYS.day_of(0, 1, day)
        for number in range(-20, 20):
            year, month, second = CYCLE.month_at(number)
            last = DAYS.days_in(number)
            self.assertEqual(DAYS.day_of(year, month, last, second=second), DAYS.first_day(number + 1) - 1)
            for day in (0, last + 1):
                with self.assertRaises(NoDay):
                    DAYS.day_of(year, month, day, second=second)

    def test_no_month_ahead_of_no_day(self):
        for told in ((0, 13, 0), (None, 1, None), (0, None, 99)):
            with self.assertRaises(NoMonth):
                DAYS.day_of(*told)
        with self.assertRaises(NoMonth):
            DAYS.day_of(0, 1, 0, second=True)

    def why_of(self, cycle=CYCLE, table=TABLE, name="new", dusk=(3, 4)):
        with self.assertRaises(NoRule) as caught:
            Days(cycle, table, name=name, dusk=dusk)
        return caught.exception.why

    def test_what_is_no_round_and_no_table(self):
        for thing in (*ODD_THINGS, TABLE, Round, 5, DOUBLED):
            self.assertEqual(self.why_of(cycle=thing), "cycle")
        for thing in (*ODD_THINGS, CYCLE, Table, LONGER, [("new", LONGER)]):
            self.assertEqual(self.why_of(table=thing), "table")

    def test_what_is_no_column_along_a_line(self):
        for name in (*ODD_THINGS, "new ", "nothing", ["new"], "long", "twice", "far", "day", "days", "shorts", "least"):
            with self.subTest(name=name):
                self.assertEqual(self.why_of(name=name), "name")

    def test_what_is_no_dusk(self):
        for dusk in (*NO_WORTHS, (1, 1), (-1, FAR), (2, 1), (-3, 4), (5, 4), (3, 2)):
            with self.subTest(dusk=dusk):
                self.assertEqual(self.why_of(dusk=dusk), "dusk")

    def test_the_first_that_is_not_so(self):
        self.assertEqual(self.why_of(None, None, None, None), "cycle")
        self.assertEqual(self.why_of(CYCLE, None, None, None), "table")
        self.assertEqual(self.why_of(CYCLE, TABLE, None, None), "name")
        self.assertEqual(self.why_of(CYCLE, TABLE, "new", None), "dusk")

    def along(self, rows):
        """A table of a column along a line that comes again behind so many rows."""
        line = Line(low=(1, 1), high=(1 + rows, 1), step=(2, 1), at=(1, 1))
        self.assertEqual(line.returns()[0], rows)
        return Table([("a", line), ("new", ("along", "a", (0, 1)))])

    def test_lines_that_come_again_behind_too_many_rows(self):
        days = Days(CYCLE, self.along(5000), name="new")
        with soon():
            self.assertEqual(days.first_day(5000 * 10 ** 6), 10 ** 6 * days.first_day(5000))
            self.assertEqual(days.date_of(days.first_day(FAR))[:3], CYCLE.month_at(FAR))
        with self.assertRaises(TooMany):
            Days(CYCLE, self.along(5001), name="new")
        with self.assertRaises(NoRule):
            Days(CYCLE, self.along(5001), name="new", dusk=(1, 1))

    def test_how_it_is_handed_in(self):
        with self.assertRaises(TypeError):
            Days(CYCLE, TABLE, "new")
        with self.assertRaises(TypeError):
            DAYS.day_of(0, 12, 1, True)
        days = Days(dusk=(3, 4), name="new", table=TABLE, cycle=CYCLE)
        self.assertEqual(days.day_of(second=True, day=1, month=12, year=0), DAYS.first_day(number=12))
        self.assertEqual((days.days_in(number=1), days.date_of(day=29)), (30, (0, 2, False, 1)))
        told = days.lengths_of(year=0)
        told.clear()
        self.assertEqual(len(days.lengths_of(0)), 13)


if __name__ == "__main__":
    unittest.main()
