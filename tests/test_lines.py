"""Points 8 and 9: lines; points 2 and 3 as they hold for these."""

import unittest
from fractions import Fraction

from helpers import FAR, NO_WORTHS, fraction_of, soon, worth_of
from tabletsky.errors import NoRule, TooMany
from tabletsky.lines import Line

# Of each: low, high, step, at, up.
LINES = (
    ((0, 1), (10, 1), (3, 1), (0, 1), True),
    ((0, 1), (10, 1), (3, 1), (10, 1), False),
    ((0, 1), (10, 1), (10, 1), (3, 1), True),
    ((0, 1), (10, 1), (10, 1), (3, 1), False),
    ((1, 1), (9, 1), (8, 1), (3, 1), True),
    ((0, 1), (10, 1), (4, 1), (1, 1), False),
    ((2, 1), (7, 1), (5, 1), (2, 1), True),
    ((2, 1), (7, 1), (5, 1), (7, 1), True),
    ((2, 1), (7, 1), (1, 1), (5, 1), False),
    ((1, 2), (5, 3), (1, 7), (1, 1), True),
    ((1, 2), (5, 3), (7, 6), (5, 3), False),
    ((0, 1), (1, 1), (2, 3), (1, 2), False),
    ((3, 4), (11, 4), (5, 6), (7, 5), True),
    ((0, 1), (5, 2), (2, 1), (1, 2), False),
    ((304319, 10800), (108119, 3600), (3, 10), (29, 1), True),
)


def line_of(told):
    low, high, step, at, up = told
    return Line(low=low, high=high, step=step, at=at, up=up)


def gone_on(told, state):
    """The next row's worth and way by the words of point 8, and whether it turned at low."""
    low, high, step = [fraction_of(thing) for thing in told[:3]]
    worth, up = state
    if up and worth + step < high:
        return (worth + step, True), False
    if up:
        return (high - (step - (high - worth)), False), False
    if worth - step > low:
        return (worth - step, False), False
    return (low + (step - (worth - low)), True), True


def begun(told):
    """The worth and the way at row 0, by the words of point 8."""
    low, high, _, at, up = told
    return (fraction_of(at), (up or at == low) and at != high)


def rows_ahead(told, many):
    """The worths and ways of so many rows from row 0 on."""
    states = [begun(told)]
    while len(states) < many:
        states.append(gone_on(told, states[-1])[0])
    return states


def state_of(line, row):
    return (fraction_of(line.value(row)), line.rises(row))


class OfRows(unittest.TestCase):
    """Point 8, and rises of point 9."""

    def test_up_and_down_again(self):
        line = Line(low=(0, 1), high=(10, 1), step=(3, 1), at=(0, 1))
        told = [line.value(row) for row in range(9)]
        self.assertEqual(told, [(worth, 1) for worth in (0, 3, 6, 9, 8, 5, 2, 1, 4)])
        self.assertEqual([line.rises(row) for row in range(9)], [True] * 4 + [False] * 3 + [True] * 2)

    def test_rows_below_nought(self):
        line = Line(low=(0, 1), high=(10, 1), step=(3, 1), at=(0, 1))
        told = [line.value(-row) for row in range(9)]
        self.assertEqual(told, [(worth, 1) for worth in (0, 3, 6, 9, 8, 5, 2, 1, 4)])
        self.assertEqual([line.rises(-row) for row in range(9)], [True] + [False] * 3 + [True] * 3 + [False] * 2)

    def test_the_lines_that_the_document_tells(self):
        for told in (LINES[2], LINES[4]):
            line = line_of(told)
            self.assertEqual([line.value(row) for row in range(4)], [(3, 1), (7, 1), (3, 1), (7, 1)])
            self.assertEqual([line.rises(row) for row in range(4)], [True, False, True, False])

    def test_by_the_words_of_the_document(self):
        for told in LINES:
            with self.subTest(told=told):
                line = line_of(told)
                states = rows_ahead(told, 90)
                self.assertEqual([state_of(line, row) for row in range(90)], states)

    def test_each_row_goes_on_from_the_one_ahead_of_it(self):
        for told in LINES:
            with self.subTest(told=told):
                line = line_of(told)
                for row in range(-90, 3):
                    after, _ = gone_on(told, state_of(line, row))
                    self.assertEqual(state_of(line, row + 1), after)

    def test_it_goes_up_where_it_is_not_told(self):
        line = Line(low=(0, 1), high=(10, 1), step=(3, 1), at=(5, 1))
        self.assertIs(line.rises(0), True)
        self.assertEqual([line.value(-1), line.value(1)], [(2, 1), (8, 1)])

    def test_it_goes_down_where_this_is_told(self):
        line = Line(low=(0, 1), high=(10, 1), step=(3, 1), at=(5, 1), up=False)
        self.assertIs(line.rises(0), False)
        self.assertEqual([line.value(-1), line.value(1)], [(8, 1), (2, 1)])

    def test_at_low_it_goes_up_whatever_is_told(self):
        for up in (True, False):
            line = Line(low=(1, 2), high=(10, 1), step=(3, 1), at=(1, 2), up=up)
            self.assertEqual([line.value(row) for row in (-1, 0, 1)], [(7, 2), (1, 2), (7, 2)])
            self.assertEqual([line.rises(row) for row in (-1, 0, 1)], [False, True, True])

    def test_at_high_it_goes_down_whatever_is_told(self):
        for up in (True, False):
            line = Line(low=(1, 2), high=(10, 1), step=(3, 1), at=(10, 1), up=up)
            self.assertEqual([line.value(row) for row in (-1, 0, 1)], [(7, 1), (10, 1), (7, 1)])
            self.assertEqual([line.rises(row) for row in (-1, 0, 1)], [True, False, False])

    def test_a_step_of_just_high_less_low(self):
        line = Line(low=(2, 1), high=(7, 1), step=(5, 1), at=(2, 1))
        self.assertEqual([line.value(row) for row in (-2, -1, 0, 1, 2)], [(2, 1), (7, 1), (2, 1), (7, 1), (2, 1)])
        self.assertEqual([line.rises(row) for row in (-2, -1, 0, 1, 2)], [True, False, True, False, True])

    def test_worths_are_told_in_lowest_terms(self):
        line = Line(low=(0, 1), high=(1, 1), step=(1, 6), at=(0, 1))
        told = [line.value(row) for row in range(7)]
        self.assertEqual(told, [(0, 1), (1, 6), (1, 3), (1, 2), (2, 3), (5, 6), (1, 1)])

    def test_rises_tells_a_truth(self):
        line = line_of(LINES[0])
        self.assertEqual({type(line.rises(row)) for row in range(-20, 20)}, {bool})


class OfFarRows(unittest.TestCase):
    """Points 3 and 8: rows and worths at the bounds of numbers."""

    def test_far_rows_of_a_short_return(self):
        for told in LINES:
            line = line_of(told)
            rows, _ = line.returns()
            with soon():
                for row in (FAR, FAR - 1, -FAR, 1 - FAR):
                    self.assertEqual(state_of(line, row), state_of(line, row % rows))

    def test_far_rows_of_a_long_return(self):
        with soon():
            line = Line(low=(0, 1), high=(FAR, 1), step=(1, 1), at=(0, 1))
            self.assertEqual(line.returns(), (2 * FAR, 1))
            for row in (1, 7, FAR // 3, FAR - 1):
                self.assertEqual((line.value(row), line.rises(row)), ((row, 1), True))
                self.assertEqual((line.value(-row), line.rises(-row)), ((row, 1), False))
            for row in (FAR, -FAR):
                self.assertEqual((line.value(row), line.rises(row)), ((FAR, 1), False))

    def test_steps_that_are_very_small(self):
        with soon():
            line = Line(low=(0, 1), high=(3, 2), step=(1, FAR), at=(1, 1), up=False)
            self.assertEqual(line.returns(), (3 * FAR, 1))
            self.assertEqual((line.value(FAR), line.rises(FAR)), ((0, 1), True))
            self.assertEqual((line.value(-FAR), line.rises(-FAR)), ((1, 1), True))
            self.assertEqual((line.value(-FAR // 2), line.rises(-FAR // 2)), ((3, 2), False))
            self.assertEqual(line.value(1), (FAR - 1, FAR))

    def test_bottoms_that_have_nothing_in_common(self):
        told = ((1, FAR - 1), (FAR, FAR - 11), (FAR - 39, FAR), (1, FAR - 61), False)
        with soon():
            line = line_of(told)
            self.assertEqual([state_of(line, row) for row in range(40)], rows_ahead(told, 40))
            rows, rounds = line.returns()
            low, high, step = [fraction_of(thing) for thing in told[:3]]
            self.assertEqual(rows * step, rounds * 2 * (high - low))
            self.assertEqual(line.value(-rows), told[3])

    def test_a_far_row_tells_what_the_way_up_to_it_leaves(self):
        low, high, step, at = (7, 3), (FAR, 7), (FAR - 3, 11), (8, 3)
        with soon():
            line = Line(low=low, high=high, step=step, at=at)
            span = fraction_of(high) - fraction_of(low)
            for row in (FAR, -FAR):
                left = (fraction_of(at) - fraction_of(low) + row * fraction_of(step)) % (2 * span)
                climbed = left if left <= span else 2 * span - left
                self.assertEqual(line.value(row), worth_of(fraction_of(low) + climbed))
                self.assertIs(line.rises(row), left < span)


class OfRefusals(unittest.TestCase):
    """Point 8: what is no line."""

    SO = {"low": (2, 1), "high": (7, 1), "step": (3, 1), "at": (4, 1), "up": True}

    def why_of(self, **told):
        with self.assertRaises(NoRule) as caught:
            Line(**{**self.SO, **told})
        return caught.exception.why

    def test_what_is_no_worth(self):
        for name in ("low", "high", "step", "at"):
            for thing in NO_WORTHS:
                with self.subTest(name=name, thing=thing):
                    self.assertEqual(self.why_of(**{name: thing}), name)

    def test_a_low_that_is_not_so(self):
        for low in ((-1, 1), (-1, FAR), (-FAR, 1)):
            self.assertEqual(self.why_of(low=low), "low")
        Line(low=(0, 1), high=(7, 1), step=(3, 1), at=(4, 1))

    def test_a_high_that_is_not_so(self):
        for high in ((2, 1), (1, 1), (0, 1), (-7, 1), (2 * FAR - 1, FAR)):
            self.assertEqual(self.why_of(high=high, at=(2, 1)), "high")
        Line(low=(2, 1), high=(2 * FAR + 1, FAR), step=(1, FAR), at=(2, 1))

    def test_a_step_that_is_not_so(self):
        for step in ((0, 1), (-1, 1), (-3, 1), (6, 1), (5 * FAR + 1, FAR), (-1, FAR)):
            self.assertEqual(self.why_of(step=step), "step")
        Line(low=(2, 1), high=(7, 1), step=(5, 1), at=(4, 1))
        Line(low=(2, 1), high=(7, 1), step=(1, FAR), at=(4, 1))

    def test_an_at_that_is_not_so(self):
        for at in ((1, 1), (0, 1), (8, 1), (-4, 1), (2 * FAR - 1, FAR), (7 * FAR + 1, FAR)):
            self.assertEqual(self.why_of(at=at), "at")
        for at in ((2, 1), (7, 1)):
            Line(low=(2, 1), high=(7, 1), step=(3, 1), at=at)

    def test_an_up_that_is_no_truth(self):
        for up in (0, 1, None, "", "up", "True", [], [True], (), (True,), {}, b"", (1, 1), object()):
            with self.subTest(up=up):
                self.assertEqual(self.why_of(up=up), "up")

    def test_at_low_and_at_high_too_an_up_that_is_no_truth(self):
        self.assertEqual(self.why_of(at=(2, 1), up=1), "up")
        self.assertEqual(self.why_of(at=(7, 1), up=0), "up")

    def test_the_first_one_is_told(self):
        names = ("low", "high", "step", "at", "up")
        for first in range(5):
            for second in range(first + 1, 5):
                with self.subTest(first=names[first], second=names[second]):
                    self.assertEqual(self.why_of(**{names[first]: None, names[second]: None}), names[first])
        self.assertEqual(self.why_of(low=(-1, 1), high=(-2, 1), step=(0, 1), at=(-3, 1), up=0), "low")
        self.assertEqual(self.why_of(high=(2, 1), step=(0, 1), at=(1, 1), up=0), "high")
        self.assertEqual(self.why_of(step=(6, 1), at=(8, 1), up=0), "step")
        self.assertEqual(self.why_of(at=(8, 1), up=0), "at")

    def test_how_it_is_handed_in(self):
        with self.assertRaises(TypeError):
            Line((0, 1), (10, 1), (3, 1), (0, 1))
        line = Line(up=False, at=(5, 1), step=(3, 1), high=(10, 1), low=(0, 1))
        self.assertEqual(line.value(row=1), (2, 1))
        self.assertIs(line.rises(row=1), False)
        self.assertEqual(line.rows_of(thing=(10, 1)), [5])


class OfReturns(unittest.TestCase):
    """Point 9: returns."""

    def test_returns(self):
        self.assertEqual([line_of(told).returns() for told in LINES[:6]],
                         [(20, 3), (20, 3), (2, 1), (2, 1), (2, 1), (5, 1)])

    def test_the_least_number_of_rows(self):
        for told in LINES:
            with self.subTest(told=told):
                state, rows, turns = begun(told), 0, 0
                while rows == 0 or state != begun(told):
                    state, turned = gone_on(told, state)
                    rows, turns = rows + 1, turns + turned
                self.assertEqual(line_of(told).returns(), (rows, turns))

    def test_where_the_line_begins_changes_no_return(self):
        for at in range(0, 11):
            for up in (True, False):
                line = Line(low=(0, 1), high=(10, 1), step=(4, 1), at=(at, 1), up=up)
                self.assertEqual(line.returns(), (5, 1))

    def test_the_way_of_all_returns_is_rounds_of_ups_and_downs(self):
        for step in range(1, 31):
            line = Line(low=(1, 1), high=(16, 1), step=worth_of(Fraction(step, 2)), at=(3, 1))
            rows, rounds = line.returns()
            self.assertEqual(rows * step, rounds * 60)

    def test_a_line_of_the_scribes(self):
        low, high = (304319, 10800), (108119, 3600)
        self.assertEqual(low, worth_of(Fraction(28 * 216000 + 10 * 3600 + 39 * 60 + 40, 216000)))
        line = Line(low=low, high=high, step=(3, 10), at=(29, 1))
        self.assertEqual(line.returns(), (10019, 810))

    def test_what_is_told_is_a_tuple(self):
        told = line_of(LINES[0]).returns()
        self.assertIs(type(told), tuple)
        self.assertEqual([type(part) for part in told], [int, int])


class OfRowsOf(unittest.TestCase):
    """Point 9: rows_of."""

    def test_once_twice_or_never(self):
        line = Line(low=(0, 1), high=(10, 1), step=(3, 1), at=(0, 1))
        self.assertEqual(line.rows_of((0, 1)), [0])
        self.assertEqual(line.rows_of((10, 1)), [10])
        self.assertEqual(line.rows_of((3, 1)), [1, 19])
        self.assertEqual(line.rows_of((1, 1)), [7, 13])
        for thing in ((1, 2), (11, 1), (-1, 1), (-3, 1), (7, 3), (23, 1), (FAR, 1), (1, FAR)):
            self.assertEqual(line.rows_of(thing), [])

    def test_only_up_or_only_down(self):
        line = Line(low=(0, 1), high=(10, 1), step=(4, 1), at=(1, 1))
        self.assertEqual([line.value(row) for row in range(5)], [(1, 1), (5, 1), (9, 1), (7, 1), (3, 1)])
        for row, thing in enumerate([(1, 1), (5, 1), (9, 1), (7, 1), (3, 1)]):
            self.assertEqual(line.rows_of(thing), [row])
        for thing in ((0, 1), (10, 1), (2, 1), (8, 1)):
            self.assertEqual(line.rows_of(thing), [])

    def test_all_rows_of_a_return(self):
        for told in LINES[:-1]:
            with self.subTest(told=told):
                line = line_of(told)
                rows, _ = line.returns()
                worths = [worth_of(state[0]) for state in rows_ahead(told, rows)]
                for thing in sorted(set(worths))[:40]:
                    self.assertEqual(line.rows_of(thing), [row for row in range(rows) if worths[row] == thing])

    def test_a_return_of_just_five_thousand_rows(self):
        line = Line(low=(0, 1), high=(2500, 1), step=(1, 1), at=(1, 1))
        self.assertEqual(line.returns(), (5000, 1))
        self.assertEqual(line.rows_of((1, 1)), [0, 4998])
        self.assertEqual(line.rows_of((0, 1)), [4999])
        self.assertEqual(line.rows_of((2500, 1)), [2499])
        self.assertEqual(line.rows_of((2501, 1)), [])

    def test_a_return_of_more_rows_is_refused(self):
        for high, rows in (((5001, 2), 5001), ((2501, 1), 5002), ((FAR, 1), 2 * FAR)):
            line = Line(low=(0, 1), high=high, step=(1, 1), at=(1, 1))
            self.assertEqual(line.returns(), (rows, 1))
            with soon():
                for thing in ((1, 1), (0, 1), (-1, 1), (1, 2), high):
                    with self.assertRaises(TooMany):
                        line.rows_of(thing)

    def test_what_is_refused_changes_nothing(self):
        line = Line(low=(0, 1), high=(2501, 1), step=(1, 1), at=(1, 1))
        with self.assertRaises(TooMany):
            line.rows_of((1, 1))
        self.assertEqual([line.value(row) for row in (-1, 0, 1)], [(0, 1), (1, 1), (2, 1)])

    def test_the_list_is_the_askers_own(self):
        line = Line(low=(0, 1), high=(10, 1), step=(3, 1), at=(0, 1))
        told = line.rows_of((3, 1))
        self.assertIs(type(told), list)
        told.append(99)
        again = line.rows_of((3, 1))
        self.assertEqual(again, [1, 19])
        self.assertIsNot(again, line.rows_of((3, 1)))
        never = line.rows_of((1, 2))
        never.append(99)
        self.assertEqual(line.rows_of((1, 2)), [])

    def test_asked_again_the_same_is_told(self):
        line = line_of(LINES[12])
        first = [(line.value(row), line.rises(row), line.returns()) for row in range(-30, 30)]
        second = [(line.value(row), line.rises(row), line.returns()) for row in range(-30, 30)]
        self.assertEqual(first, second)

    def test_two_lines_have_nothing_in_common(self):
        one, other = line_of(LINES[0]), line_of(LINES[4])
        self.assertEqual((one.value(1), other.value(1)), ((3, 1), (7, 1)))
        self.assertEqual((one.returns(), other.returns()), ((20, 3), (2, 1)))


if __name__ == "__main__":
    unittest.main()
