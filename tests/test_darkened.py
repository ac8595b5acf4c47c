"""Points 35 to 39: darkened moons; points 2 and 3 as they hold for these."""

import unittest
from fractions import Fraction
from itertools import product

from helpers import FAR, NO_WORTHS, ODD_THINGS, counted, fraction_of, soon, worth_of
from tabletsky.darkened import Dark, near_returns
from tabletsky.errors import NoDark, NoRule, TooMany
from tabletsky.lines import Line
from tabletsky.tables import Table

WAYS = (True, False, None)
# The moon is at 0, 3, 6, 9, 8, 5, 2, 1, 4, 7, 10 and back: behind 20 rows it comes again.
MOON = Line(low=(0, 1), high=(10, 1), step=(3, 1), at=(0, 1))
# Of each: low, high, step, at, up.
TOLD = (
    ((0, 1), (10, 1), (3, 1), (0, 1), True),
    ((0, 1), (10, 1), (10, 1), (3, 1), True),
    ((1, 1), (9, 1), (8, 1), (9, 1), True),
    ((2, 1), (7, 1), (1, 1), (5, 1), False),
    ((1, 2), (5, 3), (1, 7), (1, 1), True),
    ((0, 1), (3, 2), (1, 1), (1, 2), True),
    ((3, 4), (11, 4), (5, 6), (7, 5), True),
    ((0, 1), (1, 1), (1, 11), (1, 1), True),
)
LINES = [Line(low=low, high=high, step=step, at=at, up=up) for low, high, step, at, up in TOLD]
# From a third to a bit more than a million, by about four parts of ten each row: it comes again
# behind millions of millions of millions of rows.
HIGH = Fraction(999999999989, 999983)
STEP = Fraction(999999999961, 2400013)
LONG = Line(low=(1, 3), high=worth_of(HIGH), step=worth_of(STEP), at=(1, 1))


def bounds_of(low, high, parts=6):
    """Bounds from a line's low to its high, each with each that is no lower."""
    told = [low + (high - low) * Fraction(part, parts) for part in range(parts + 1)]
    return [(worth_of(one), worth_of(other)) for one, other in product(told, repeat=2) if one <= other]


def is_dark(line, low, high, up, row):
    """Whether a row is dark by the words of point 35."""
    worth = fraction_of(line.value(row))
    return fraction_of(low) <= worth <= fraction_of(high) and (up is None or line.rises(row) is up)


def all_told():
    """Dark rows of all lines, bounds and ways: tuples (Dark, how many rows a return has, the dark ones of them)."""
    for line, told in zip(LINES, TOLD):
        rows, _ = line.returns()
        for (low, high), up in product(bounds_of(fraction_of(told[0]), fraction_of(told[1])), WAYS):
            dark = [row for row in range(rows) if is_dark(line, low, high, up, row)]
            yield Dark(line, low=low, high=high, up=up), rows, dark


class OfDarkRows(unittest.TestCase):
    """Points 35 to 37."""

    def test_rows_of_a_line(self):
        dark = Dark(MOON, low=(5, 1), high=(8, 1))
        self.assertEqual([row for row in range(20) if dark.is_dark(row)], [2, 4, 5, 9, 11, 15, 16, 18])
        dark = Dark(MOON, low=(5, 1), high=(8, 1), up=True)
        self.assertEqual([row for row in range(20) if dark.is_dark(row)], [2, 9, 15, 16])
        dark = Dark(MOON, low=(5, 1), high=(8, 1), up=False)
        self.assertEqual([row for row in range(20) if dark.is_dark(row)], [4, 5, 11, 18])
        self.assertIs(dark.is_dark(4), True)
        self.assertIs(dark.is_dark(2), False)

    def test_bounds_are_dark_themselves(self):
        dark = Dark(MOON, low=(6, 1), high=(6, 1))
        self.assertEqual([row for row in range(20) if dark.is_dark(row)], [2, 18])
        dark = Dark(MOON, low=(6 * FAR + 1, FAR), high=(8, 1))
        self.assertEqual([row for row in range(20) if dark.is_dark(row)], [4, 9, 11, 16])
        dark = Dark(MOON, low=(6, 1), high=(8 * FAR - 1, FAR))
        self.assertEqual([row for row in range(20) if dark.is_dark(row)], [2, 9, 11, 18])

    def test_at_the_line_s_own_ends(self):
        for end, row in (((0, 1), 0), ((10, 1), 10)):
            for up, rows in ((None, [row]), (row == 0, [row]), (row == 10, [])):
                dark = Dark(MOON, low=end, high=end, up=up)
                self.assertEqual([row for row in range(20) if dark.is_dark(row)], rows)
        for up, many in ((None, 20), (True, 10), (False, 10)):
            self.assertEqual(Dark(MOON, low=(0, 1), high=(10, 1), up=up).how_many(0, 19), many)

    def test_a_way_that_is_not_told(self):
        for low, high in bounds_of(Fraction(0), Fraction(10)):
            one, other = Dark(MOON, low=low, high=high), Dark(MOON, low=low, high=high, up=None)
            self.assertEqual([one.is_dark(row) for row in range(20)], [other.is_dark(row) for row in range(20)])

    def test_by_the_words_of_the_document(self):
        for dark, rows, told in all_told():
            self.assertEqual([row for row in range(-rows, 2 * rows) if dark.is_dark(row)],
                             [row + rows * returns for returns in (-1, 0, 1) for row in told])

    def test_the_next_and_the_last_one(self):
        for dark, rows, told in all_told():
            if not told:
                continue
            more = [row + rows * returns for returns in range(-2, 4) for row in told]
            for row in range(-rows, rows + 1, max(1, rows // 7)):
                self.assertEqual(dark.next_dark(row), min(other for other in more if other >= row))
                self.assertEqual(dark.last_dark(row), max(other for other in more if other <= row))
        dark = Dark(MOON, low=(5, 1), high=(8, 1))
        self.assertEqual([dark.next_dark(row) for row in (2, 3, 4, 5, 6)], [2, 4, 4, 5, 9])
        self.assertEqual([dark.last_dark(row) for row in (2, 1, 0, 3, 8)], [2, -2, -2, 2, 5])

    def test_how_many(self):
        for dark, rows, told in all_told():
            more = [row + rows * returns for returns in range(-4, 5) for row in told]
            for first in range(-rows, rows + 1, max(1, rows // 5)):
                for last in (first - 9, first - 1, first, first + 1, first + rows - 1, first + 2 * rows):
                    self.assertEqual(dark.how_many(first, last), len([row for row in more if first <= row <= last]))
        dark = Dark(MOON, low=(5, 1), high=(8, 1))
        self.assertEqual((dark.how_many(2, 2), dark.how_many(3, 3), dark.how_many(5, 4), dark.how_many(5, 2)),
                         (1, 0, 0, 0))
        self.assertEqual(dark.how_many(FAR, -FAR), 0)

    def test_numbers_and_rows_one_the_other_s_way_back(self):
        for dark, rows, told in all_told():
            if not told:
                continue
            for returns in (-2, -1, 0, 1):
                for at, row in enumerate(told):
                    number = at + len(told) * returns
                    self.assertEqual(dark.nth(number), row + rows * returns)
                    self.assertEqual(dark.number_of(row + rows * returns), number)

    def test_numbers_begin_at_row_nought(self):
        dark = Dark(MOON, low=(5, 1), high=(8, 1))
        self.assertEqual([dark.nth(number) for number in (-2, -1, 0, 1, 2)], [-4, -2, 2, 4, 5])
        self.assertEqual([dark.number_of(row) for row in (-4, -2, 2, 4, 5)], [-2, -1, 0, 1, 2])
        self.assertEqual(Dark(MOON, low=(0, 1), high=(1, 1)).nth(0), 0)

    def test_the_number_of_a_row_that_is_not_dark(self):
        dark = Dark(MOON, low=(5, 1), high=(8, 1))
        for row in (0, 1, 3, -1, 20, FAR):
            self.assertFalse(dark.is_dark(row))
            with self.assertRaises(NoDark):
                dark.number_of(row)

    def test_no_dark_row_at_all(self):
        for dark in (Dark(MOON, low=(1, 3), high=(2, 3)), Dark(MOON, low=(0, 1), high=(0, 1), up=False),
                     Dark(MOON, low=(10, 1), high=(10, 1), up=True), Dark(LINES[1], low=(4, 1), high=(6, 1))):
            for ask in (lambda: dark.next_dark(0), lambda: dark.last_dark(0), lambda: dark.nth(0),
                        lambda: dark.number_of(0), lambda: dark.next_dark(-FAR), dark.gaps):
                self.assertRaises(NoDark, ask)
            self.assertEqual([dark.how_many(-FAR, FAR), dark.how_many(0, 0), dark.is_dark(0)], [0, 0, False])

    def test_far_ahead_and_behind(self):
        with soon():
            for far in (FAR, -FAR):
                dark = Dark(MOON, low=(5, 1), high=(8, 1))
                # 20 divides a million millions.
                self.assertEqual((dark.next_dark(far), dark.last_dark(far)), (far + 2, far - 2))
                self.assertEqual((dark.number_of(far + 2), dark.nth(far)), (far // 20 * 8, far // 8 * 20 + 2))
            self.assertEqual(dark.how_many(-FAR, FAR), FAR // 10 * 8)

    def test_a_return_that_is_far_greater(self):
        self.assertGreater(LONG.returns()[0], FAR * 10 ** 6)
        with soon():
            for up in WAYS:
                dark = Dark(LONG, low=(142857, 1), high=(300000, 1), up=up)
                for start in (FAR, -FAR, 0):
                    rows = [row for row in range(start, start + 1000)
                            if is_dark(LONG, (142857, 1), (300000, 1), up, row)]
                    self.assertTrue(rows)
                    self.assertEqual([row for row in range(start, start + 1000) if dark.is_dark(row)], rows)
                    self.assertEqual((dark.next_dark(start), dark.last_dark(start + 999)), (rows[0], rows[-1]))
                    self.assertEqual(dark.how_many(start, start + 999), len(rows))
                    number = dark.number_of(rows[0])
                    self.assertEqual([dark.nth(number + at) for at in range(len(rows))], rows)
                    self.assertEqual([dark.number_of(row) for row in rows], list(range(number, number + len(rows))))
                    self.assertEqual(dark.how_many(0, start) - dark.how_many(start + 1, -1),
                                     dark.number_of(dark.next_dark(start + 1)))
                for number in (FAR, -FAR):
                    row = dark.nth(number)
                    self.assertTrue(dark.is_dark(row))
                    self.assertEqual(dark.number_of(row), number)

    def test_dark_rows_that_lie_far_from_one_another(self):
        dark = Dark(LONG, low=(142857, 1), high=worth_of(142857 + Fraction(1, 10 ** 9)))
        with soon():
            rows = [dark.nth(number) for number in range(-5, 6)]
            self.assertEqual(rows, sorted(rows))
            for number, (one, other) in enumerate(zip(rows, rows[1:]), -5):
                self.assertTrue(dark.is_dark(one))
                self.assertEqual((dark.next_dark(one), dark.next_dark(one + 1), dark.last_dark(other - 1)),
                                 (one, other, one))
                self.assertEqual((dark.how_many(one, other), dark.number_of(one)), (2, number))
            self.assertGreater(rows[-1] - rows[0], 10 ** 12)

    def why_of(self, line=MOON, low=(5, 1), high=(8, 1), up=None):
        with self.assertRaises(NoRule) as caught:
            Dark(line, low=low, high=high, up=up)
        return caught.exception.why

    def test_what_is_no_line(self):
        for line in (*ODD_THINGS, counted(20), Line, Table([("a", MOON)]), (0, 1)):
            self.assertEqual(self.why_of(line=line), "line")

    def test_what_are_no_bounds(self):
        for low in (*NO_WORTHS, (-1, FAR), (-5, 1), (11, 1), (10 * FAR + 1, FAR)):
            with self.subTest(low=low):
                self.assertEqual(self.why_of(low=low, high=(10, 1)), "low")
        for high in (*NO_WORTHS, (5 * FAR - 1, FAR), (0, 1), (-5, 1), (11, 1), (10 * FAR + 1, FAR)):
            with self.subTest(high=high):
                self.assertEqual(self.why_of(high=high), "high")
        line = LINES[3]
        self.assertEqual((self.why_of(line, (1, 1), (7, 1)), self.why_of(line, (8, 1), (8, 1))), ("low", "low"))
        self.assertEqual((self.why_of(line, (2, 1), (8, 1)), self.why_of(line, (3, 1), (2, 1))), ("high", "high"))

    def test_what_is_no_way(self):
        for up in (0, 1, -1, "", "up", [], (), {}, object(), (True,)):
            with self.subTest(up=up):
                self.assertEqual(self.why_of(up=up), "up")

    def test_the_first_that_is_not_so(self):
        self.assertEqual(self.why_of(None, None, None, 0), "line")
        self.assertEqual(self.why_of(MOON, None, None, 0), "low")
        self.assertEqual(self.why_of(MOON, (5, 1), None, 0), "high")
        self.assertEqual(self.why_of(MOON, (5, 1), (5, 1), 0), "up")

    def test_how_it_is_handed_in(self):
        with self.assertRaises(TypeError):
            Dark(MOON, (5, 1), (8, 1))
        dark = Dark(up=None, high=(8, 1), low=(5, 1), line=MOON)
        self.assertEqual((dark.is_dark(row=2), dark.next_dark(row=3), dark.last_dark(row=3)), (True, 4, 2))
        self.assertEqual((dark.how_many(last=5, first=2), dark.nth(number=1), dark.number_of(row=4)), (3, 1 + 3, 1))


def gaps_by_words(told, rows):
    """What gaps tells, by the words of point 38, of the dark rows of a return."""
    gaps = [after - row for row, after in zip(told, told[1:] + [told[0] + rows])]
    return [(gap, gaps.count(gap)) for gap in sorted(set(gaps))]


class OfGaps(unittest.TestCase):
    """Point 38."""

    def test_over_one_return(self):
        self.assertEqual(Dark(MOON, low=(5, 1), high=(8, 1)).gaps(), [(1, 2), (2, 3), (4, 3)])
        self.assertEqual(Dark(MOON, low=(5, 1), high=(8, 1), up=True).gaps(), [(1, 1), (6, 2), (7, 1)])

    def test_the_last_one_round_to_the_first(self):
        # Rows 0, 6, 7, 13 and 14, and row 20 again.
        self.assertEqual(Dark(MOON, low=(0, 1), high=(2, 1)).gaps(), [(1, 2), (6, 3)])

    def test_one_dark_row_in_a_return(self):
        for line, end in ((MOON, (0, 1)), (MOON, (10, 1)), (LINES[7], (1, 1))):
            self.assertEqual(Dark(line, low=end, high=end).gaps(), [(line.returns()[0], 1)])
        self.assertEqual(Dark(MOON, low=(6, 1), high=(6, 1), up=True).gaps(), [(20, 1)])
        with soon():
            dark = Dark(LONG, low=LONG.value(FAR), high=LONG.value(FAR), up=LONG.rises(FAR))
            self.assertEqual(dark.gaps(), [(LONG.returns()[0], 1)])

    def test_all_rows_are_dark(self):
        self.assertEqual(Dark(MOON, low=(0, 1), high=(10, 1)).gaps(), [(1, 20)])

    def test_by_the_words_of_the_document(self):
        for dark, rows, told in all_told():
            if told:
                self.assertEqual(dark.gaps(), gaps_by_words(told, rows))

    def test_where_a_way_is_told_there_are_at_most_three(self):
        seen = set()
        bounds = [(low, high) for low, high in product(range(0, 37, 3), range(0, 37, 2)) if low <= high]
        for step in (1, 2, 3, 7, 12, 29, 36):
            line = Line(low=(0, 1), high=(73, 2), step=(step, 1), at=(1, 1))
            rows, _ = line.returns()
            for (low, high), up in product(bounds, (True, False)):
                told = [row for row in range(rows) if is_dark(line, (low, 1), (high, 1), up, row)]
                if not told:
                    continue
                gaps = Dark(line, low=(low, 1), high=(high, 1), up=up).gaps()
                self.assertEqual(gaps, gaps_by_words(told, rows))
                seen.add(len(gaps))
                if len(gaps) == 3:
                    self.assertEqual(gaps[2][0], gaps[0][0] + gaps[1][0])
        self.assertEqual(seen, {1, 2, 3})

    def test_a_return_that_is_far_greater(self):
        rows, _ = LONG.returns()
        with soon():
            for up in (True, False):
                for high in (166666, 142858, 142857 + Fraction(1, 10 ** 9)):
                    dark = Dark(LONG, low=(142857, 1), high=worth_of(Fraction(high)), up=up)
                    gaps = dark.gaps()
                    self.assertIn(len(gaps), (2, 3))
                    if len(gaps) == 3:
                        self.assertEqual(gaps[2][0], gaps[0][0] + gaps[1][0])
                    self.assertEqual(sum(gap * many for gap, many in gaps), rows)
                    self.assertEqual(sum(many for _, many in gaps), dark.how_many(0, rows - 1))
                    some = [dark.nth(number) for number in range(60)]
                    self.assertLessEqual({after - row for row, after in zip(some, some[1:])}, {gap for gap, _ in gaps})

    def test_more_than_five_thousand_dark_rows_either_way(self):
        line = Line(low=(0, 1), high=(5000, 1), step=(1, 1), at=(0, 1))
        # Rows of a return: 2 of each worth but low and high, which have one.
        self.assertEqual(Dark(line, low=(1, 1), high=(2500, 1)).gaps(), [(1, 4998), (2, 1), (5000, 1)])
        with self.assertRaises(TooMany):
            Dark(line, low=(0, 1), high=(2500, 1)).gaps()
        self.assertEqual(Dark(line, low=(0, 1), high=(2499, 1)).gaps(), [(1, 4998), (5002, 1)])
        self.assertEqual(Dark(line, low=(0, 1), high=(5000, 1), up=True).gaps(), [(1, 4999), (5001, 1)])
        self.assertEqual(Dark(line, low=(0, 1), high=(5000, 1), up=False).gaps(), [(1, 4999), (5001, 1)])
        with self.assertRaises(TooMany):
            Dark(LONG, low=(1, 3), high=worth_of(HIGH)).gaps()

    def test_few_dark_rows_either_way_of_a_far_greater_return(self):
        rows, _ = LONG.returns()
        with soon():
            for width, least in ((0, 1), (Fraction(1, 10 ** 11), 100)):
                low = fraction_of(LONG.value(5))
                dark = Dark(LONG, low=worth_of(low), high=worth_of(low + width))
                many = dark.how_many(0, rows - 1)
                self.assertTrue(least <= many <= 5000)
                self.assertEqual(dark.gaps(), gaps_by_words([dark.nth(number) for number in range(many)], rows))

    def test_what_was_told_is_the_asker_s_own(self):
        dark = Dark(MOON, low=(5, 1), high=(8, 1))
        dark.gaps().clear()
        self.assertEqual(len(dark.gaps()), 3)
        for gap in dark.gaps():
            self.assertIs(type(gap), tuple)


def offs_by_words(line, span, step, most):
    """What near_returns tells, by the words of point 39, by going through all rows."""
    found, least = [], None
    for rows in range(1, most + 1):
        off = rows * step % (2 * span)
        if off > span:
            off -= 2 * span
        if least is None or abs(off) < least:
            least = abs(off)
            found.append((rows, worth_of(off)))
    return found


class OfNearReturns(unittest.TestCase):
    """Point 39."""

    def test_each_nearer_than_all_lesser_ones(self):
        # In 6 rows 18, 2 short of 20; in 7 rows 21, 1 beyond; in 20 rows 60, which is just three times.
        self.assertEqual(near_returns(MOON, most=100), [(1, (3, 1)), (6, (-2, 1)), (7, (1, 1)), (20, (0, 1))])

    def test_as_far_as_is_told(self):
        told = near_returns(MOON, most=FAR)
        for most in range(1, 25):
            self.assertEqual(near_returns(MOON, most=most), [some for some in told if some[0] <= most])
        self.assertEqual(near_returns(MOON, most=1), [(1, (3, 1))])

    def test_just_between_two_it_is_beyond(self):
        for line in (LINES[1], LINES[2]):
            step = 10 if line is LINES[1] else 8
            self.assertEqual(near_returns(line, most=FAR), [(1, (step, 1)), (2, (0, 1))])

    def test_by_the_words_of_the_document(self):
        steps = ((10, 3), (10, 1), (10, 7), (9, 4), (Fraction(7, 6), Fraction(1, 7)), (Fraction(5, 2), Fraction(5, 3)),
                 (Fraction(99, 7), Fraction(20, 3)), (37, 10), (37, 18), (1000, 618), (1000, 999), (1000, 1))
        for span, step in steps:
            for low in (0, Fraction(1, 3)):
                line = Line(low=worth_of(Fraction(low)), high=worth_of(Fraction(low + span)),
                            step=worth_of(Fraction(step)), at=worth_of(Fraction(low)))
                told = offs_by_words(line, Fraction(span), Fraction(step), 2500)
                self.assertEqual(near_returns(line, most=2500), told)

    def test_whatever_row_it_begins_at(self):
        for at, up in (((0, 1), True), ((7, 1), True), ((7, 1), False), ((10, 1), True)):
            line = Line(low=(0, 1), high=(10, 1), step=(3, 1), at=at, up=up)
            self.assertEqual(near_returns(line, most=50), near_returns(MOON, most=50))

    def test_a_million_millions_of_rows(self):
        with soon():
            told = near_returns(LONG, most=FAR)
            self.assertEqual(told, sorted(told))
            offs = [abs(fraction_of(off)) for _, off in told]
            self.assertEqual(offs, sorted(offs, reverse=True))
            self.assertEqual(len(set(offs)), len(offs))
            self.assertLessEqual(told[-1][0], FAR)
            for rows, off in told:
                self.assertEqual((rows * STEP - fraction_of(off)) % (2 * (HIGH - Fraction(1, 3))), 0)
            self.assertGreater(len(told), 5)
            self.assertEqual(near_returns(LONG, most=10)[-1], [some for some in told if some[0] <= 10][-1])

    def why_of(self, line, most):
        with self.assertRaises(NoRule) as caught:
            near_returns(line, most=most)
        return caught.exception.why

    def test_what_is_none(self):
        for line in (*ODD_THINGS, counted(20), Line):
            self.assertEqual(self.why_of(line, 5), "line")
            self.assertEqual(self.why_of(line, None), "line")
        for most in (None, True, False, 0, -1, FAR + 1, "5", b"5", [5], (5,), (5, 1), {}, object()):
            with self.subTest(most=most):
                self.assertEqual(self.why_of(MOON, most), "most")

    def test_how_it_is_handed_in(self):
        with self.assertRaises(TypeError):
            near_returns(MOON, 5)
        told = near_returns(most=1, line=MOON)
        told.clear()
        self.assertEqual(near_returns(MOON, most=1), [(1, (3, 1))])


if __name__ == "__main__":
    unittest.main()
