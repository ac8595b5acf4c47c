"""Points 21 to 23: rules found, and rules parted; points 2 and 3 as they hold for these."""

import unittest
from itertools import product
from math import gcd

from helpers import FAR, NO_WORTHS, ODD_THINGS, counted, soon
from tabletsky.errors import NoColumn, NoReturn, NoRule, NoWorth, TooMany
from tabletsky.found import lines_with, parts_at, settled_by, tables_part, zones_with
from tabletsky.lines import Line
from tabletsky.tables import Table
from tabletsky.zones import Zones


def worths(*wholes):
    """Worths of whole numbers, None for None."""
    return [None if whole is None else (whole, 1) for whole in wholes]


def line_of(low, high, step, at, up=True):
    return Line(low=low, high=high, step=step, at=at, up=up)


def whole_line(low, high, step, at, up=True):
    return line_of((low, 1), (high, 1), (step, 1), (at, 1), up)


def zones_of(ring, borders, steps, at):
    return Zones(ring=(ring, 1), borders=worths(*borders), steps=worths(*steps), at=at)


def is_had(rule, seen, first):
    """Whether a rule has worths seen, by the words of point 21."""
    return all(thing is None or rule.value(first + at) == thing for at, thing in enumerate(seen))


def lines_tried(seen, lows, highs, steps, first=0):
    """All lines by whole numbers that have worths seen, by trying all places and ways at row 0."""
    lost = next(at for at, thing in enumerate(seen) if thing is not None)
    found = []
    for low, high, step in product(lows, highs, steps):
        if not 0 <= low[0] < high[0] or not 0 < step[0] <= high[0] - low[0]:
            continue
        own = []
        for at, up in product(range(low[0], high[0] + 1), (True, False)):
            line = line_of(low, high, step, (at, 1), up)
            if line.rises(0) is up and is_had(line, seen, first):
                own.append((not line.rises(first + lost), (low, high, step, (at, 1), up)))
        found.extend(told for _, told in sorted(own))
    return found


class OfLinesFound(unittest.TestCase):
    """Point 21: lines_with."""

    def test_lines_of_one_worth(self):
        told = lines_with(worths(3), lows=worths(0), highs=worths(10), steps=worths(3))
        self.assertEqual(told, [((0, 1), (10, 1), (3, 1), (3, 1), True), ((0, 1), (10, 1), (3, 1), (3, 1), False)])
        for some in told:
            self.assertIs(type(some), tuple)
            self.assertIs(type(some[4]), bool)

    def test_at_low_and_at_high_one_way_only(self):
        told = lines_with(worths(0), lows=worths(0), highs=worths(10), steps=worths(3))
        self.assertEqual(told, [((0, 1), (10, 1), (3, 1), (0, 1), True)])
        told = lines_with(worths(10), lows=worths(0), highs=worths(10), steps=worths(3))
        self.assertEqual(told, [((0, 1), (10, 1), (3, 1), (10, 1), False)])

    def test_at_low_and_at_high_at_row_nought(self):
        told = lines_with(worths(3), lows=worths(0), highs=worths(9), steps=worths(3), first=1)
        self.assertEqual(told, [((0, 1), (9, 1), (3, 1), (0, 1), True), ((0, 1), (9, 1), (3, 1), (6, 1), False)])
        told = lines_with(worths(6), lows=worths(0), highs=worths(9), steps=worths(3), first=1)
        self.assertEqual(told, [((0, 1), (9, 1), (3, 1), (3, 1), True), ((0, 1), (9, 1), (3, 1), (9, 1), False)])

    def test_up_first_then_down_at_the_row_of_the_first_worth(self):
        # At row 0 it is the other way round: the one that goes up at row 3 goes down there.
        told = lines_with(worths(5), lows=worths(0), highs=worths(10), steps=worths(4), first=3)
        self.assertEqual([some[3:] for some in told], [((7, 1), False), ((3, 1), True)])
        for some, up in zip(told, (True, False)):
            self.assertIs(line_of(*some).rises(3), up)

    def test_more_worths_leave_fewer_lines(self):
        told = lines_with(worths(3, 6), lows=worths(0), highs=worths(10), steps=worths(3))
        self.assertEqual(told, [((0, 1), (10, 1), (3, 1), (3, 1), True)])
        told = lines_with(worths(3, 0), lows=worths(0), highs=worths(10), steps=worths(3))
        self.assertEqual(told, [((0, 1), (10, 1), (3, 1), (3, 1), False)])
        self.assertEqual(lines_with(worths(3, 4), lows=worths(0), highs=worths(10), steps=worths(3)), [])
        self.assertEqual(lines_with(worths(11), lows=worths(0), highs=worths(10), steps=worths(3)), [])
        self.assertEqual(lines_with(worths(-1), lows=worths(0), highs=worths(10), steps=worths(3)), [])

    def test_both_of_the_lines_that_can_not_be_told_apart(self):
        told = lines_with(worths(3, 7, 3), lows=worths(0, 1), highs=worths(9, 10), steps=worths(8, 10))
        self.assertEqual(told, [((0, 1), (10, 1), (10, 1), (3, 1), True), ((0, 1), (10, 1), (10, 1), (3, 1), False),
                                ((1, 1), (9, 1), (8, 1), (3, 1), True), ((1, 1), (9, 1), (8, 1), (3, 1), False)])

    def test_in_the_order_of_the_lists(self):
        lows, highs, steps = worths(2, 0, 1), worths(9, 12, 8), worths(3, 1, 2)
        told = lines_with(worths(None, 5, None), lows=lows, highs=highs, steps=steps, first=-1)
        made = [some[:3] for some in told]
        self.assertEqual(made, [three for three in product(lows, highs, steps) for _ in range(2)])

    def test_what_makes_no_line_among_what_does(self):
        lows, highs, steps = worths(-1, 9, 4, 0, 5), worths(4, 3, 9, -2), worths(0, 5, -3, 6, 9, 10)
        told = lines_with(worths(4), lows=lows, highs=highs, steps=steps)
        self.assertEqual(told, lines_tried(worths(4), lows, highs, steps))
        self.assertEqual({some[:3] for some in told}, {(a, b, c) for a, b, c in product(lows, highs, steps) if (
            (a, b, c) in [((4, 1), (9, 1), (5, 1)), ((0, 1), (9, 1), (5, 1)), ((0, 1), (9, 1), (6, 1)),
                          ((0, 1), (9, 1), (9, 1))])})

    def test_none_of_these_makes_a_line(self):
        self.assertEqual(lines_with(worths(4), lows=worths(-1), highs=worths(9), steps=worths(1)), [])
        self.assertEqual(lines_with(worths(4), lows=worths(0), highs=worths(9), steps=worths(0, -1, 10)), [])
        self.assertEqual(lines_with(worths(4), lows=worths(4), highs=worths(4), steps=worths(1)), [])

    def test_by_trying_all_lines(self):
        lows, highs, steps = worths(1, 0, 3), worths(7, 5, 4), worths(2, 4, 1, 3)
        for seen in ((3,), (None, 3), (4, None, 4), (None, None, 3, 5), (3, 3), (1, 2, 3, 4), (5, None, None, 1),
                     (0,), (7,), (None, 4, 3, 4), (2, None, None, None, None, None, 2)):
            for first in (0, 1, -1, 7, -12):
                with self.subTest(seen=seen, first=first):
                    told = lines_with(worths(*seen), lows=lows, highs=highs, steps=steps, first=first)
                    self.assertEqual(told, lines_tried(worths(*seen), lows, highs, steps, first))

    def test_worths_with_parts(self):
        line = line_of((1, 2), (5, 3), (1, 7), (1, 1), False)
        seen = [line.value(row) for row in range(4, 24)]
        told = lines_with(seen, lows=[(1, 3), (1, 2)], highs=[(5, 3), (2, 1)], steps=[(1, 8), (1, 7)], first=4)
        self.assertEqual(told, [((1, 2), (5, 3), (1, 7), (1, 1), False)])

    def test_a_row_far_off(self):
        line = line_of((1, 2), (5, 3), (1, 7), (1, 1), False)
        with soon():
            for first in (FAR, -FAR):
                for lost in (0, 3):
                    seen = [None] * lost + [line.value(first + lost + at) for at in range(20)]
                    told = lines_with(seen, lows=[(1, 2)], highs=[(5, 3)], steps=[(1, 7)], first=first)
                    self.assertEqual(told, [((1, 2), (5, 3), (1, 7), (1, 1), False)])

    def test_one_worth_and_sixty(self):
        line = whole_line(2, 9, 3, 4)
        seen = [line.value(row) for row in range(60)]
        told = lines_with(seen, lows=worths(2), highs=worths(9), steps=worths(3))
        self.assertEqual(told, [((2, 1), (9, 1), (3, 1), (4, 1), True)])
        seen[:59] = [None] * 59
        self.assertEqual(len(lines_with(seen, lows=worths(2), highs=worths(9), steps=worths(3))), 2)

    def test_what_are_no_worths_seen(self):
        for seen in (*ODD_THINGS, [], [None], [None] * 60, worths(*[3] * 61), ((3, 1),), [(3, 1), 3], {0: (3, 1)},
                     *[[(3, 1), thing] for thing in NO_WORTHS if thing is not None]):
            with self.subTest(seen=seen), self.assertRaises(NoWorth):
                lines_with(seen, lows=worths(0), highs=worths(10), steps=worths(3))

    def test_lists_that_are_none(self):
        so = {"lows": worths(0), "highs": worths(10), "steps": worths(3)}
        for name in so:
            for things in (*ODD_THINGS, [], [None], ((0, 1),), worths(0, 1, 0), [(0, 1), (1, 1), (0, 1)], [(2, 4)],
                           *[[(3, 1), thing] for thing in NO_WORTHS]):
                with self.subTest(name=name, things=things), self.assertRaises(NoWorth):
                    lines_with(worths(3), **{**so, name: things})

    def test_more_bounds_and_steps_than_may_be(self):
        rising = list(range(1, 17))
        for lows, highs, steps in (([-16 * at for at in rising], rising, rising), (rising, [0], list(range(256))),
                                   ([3], rising + list(range(20, 260)), rising)):
            self.assertEqual(len(lows) * len(highs) * len(steps), 4096)
            told = lines_with(worths(4), lows=worths(*lows), highs=worths(*highs), steps=worths(*steps))
            ways = [1 if 4 in (low, high) else 2 for low, high, step in product(lows, highs, steps)
                    if 0 <= low <= 4 <= high and 0 < step <= high - low]
            self.assertEqual(len(told), sum(ways))
        for lows, highs, steps in ((241, 17, 1), (17, 1, 241), (4097, 1, 1), (1, 1, 4097), (17, 16, 16), (64, 65, 1)):
            with self.assertRaises(TooMany):
                # Most of these make no line.
                lines_with(worths(4), lows=worths(*range(-lows, 0)), highs=worths(*range(highs)),
                           steps=worths(*range(-steps, 0)))

    def test_which_refusal_comes_first(self):
        many = worths(*range(4097))
        with self.assertRaises(NoWorth):
            lines_with([], lows=many, highs=worths(1), steps=worths(1))
        for wrong in ({"lows": []}, {"highs": []}, {"steps": []}):
            with self.assertRaises(NoWorth):
                lines_with(worths(3), **{"lows": many, "highs": many, "steps": many, **wrong})

    def test_lists_that_were_handed_in_or_told(self):
        seen, lows, highs, steps = worths(3, None), worths(0), worths(10), worths(3)
        told = lines_with(seen, lows=lows, highs=highs, steps=steps)
        self.assertEqual((seen, lows, highs, steps), (worths(3, None), worths(0), worths(10), worths(3)))
        again = lines_with(seen, lows=lows, highs=highs, steps=steps)
        self.assertIsNot(told, again)
        told.clear()
        self.assertEqual(len(again), 2)

    def test_how_it_is_handed_in(self):
        with self.assertRaises(TypeError):
            lines_with(worths(3), worths(0), worths(10), worths(3))
        told = lines_with(first=1, steps=worths(3), highs=worths(10), lows=worths(0), worths=worths(3, 6))
        self.assertEqual(told, [((0, 1), (10, 1), (3, 1), (0, 1), True)])


class OfZonesFound(unittest.TestCase):
    """Point 21: zones_with."""

    SO = {"ring": (10, 1), "borders": [(0, 1), (4, 1)], "steps": [(2, 1), (3, 1), (1, 2)]}

    def zones_tried(self, seen, first=0):
        """All choices of steps by which zones have worths seen, by the words of point 21."""
        lost, at = next((at, thing) for at, thing in enumerate(seen) if thing is not None)
        found = []
        for steps in product(self.SO["steps"], repeat=2):
            zones = Zones(ring=(10, 1), borders=self.SO["borders"], steps=list(steps), at=at)
            if is_had(zones, seen, -lost):
                found.append((list(steps), zones.value(-first - lost)))
        return found

    def test_all_choices_of_steps_of_one_worth(self):
        told = zones_with(worths(3), **self.SO)
        self.assertEqual(told, [(list(steps), (3, 1)) for steps in product(self.SO["steps"], repeat=2)])
        for some in told:
            self.assertIs(type(some), tuple)
            self.assertIs(type(some[0]), list)

    def test_the_zones_that_the_worths_go_through(self):
        zones = zones_of(10, (0, 4), (2, 3), (3, 1))
        seen = [zones.value(row) for row in range(4)]
        self.assertEqual(zones_with(seen, **self.SO), [([(2, 1), (3, 1)], (3, 1))])
        self.assertEqual(zones_with(worths(3, 2), **self.SO), [])

    def test_zones_that_no_row_shows_are_found_in_all_ways(self):
        told = zones_with(worths(0, 2, 4), **self.SO)
        self.assertEqual(told, [([(2, 1), step], (0, 1)) for step in self.SO["steps"]])
        told = zones_with(worths(4, None, 10 - 2), **{**self.SO, "steps": worths(5, 2)})
        self.assertEqual(told, [([(5, 1), (2, 1)], (4, 1)), ([(2, 1), (2, 1)], (4, 1))])

    def test_by_the_words_of_the_document(self):
        for seen in ((3,), (None, 3), (9, None, 3), (0, 2), (5, 8), (None, None, 1, None, 7), (8, None, None)):
            for first in (0, 1, -1, 5, -9):
                with self.subTest(seen=seen, first=first):
                    told = zones_with(worths(*seen), **self.SO, first=first)
                    self.assertEqual(told, self.zones_tried(worths(*seen), first))
                    for steps, at in told:
                        zones = Zones(ring=(10, 1), borders=self.SO["borders"], steps=steps, at=at)
                        self.assertTrue(is_had(zones, worths(*seen), first))

    def test_the_place_at_row_nought(self):
        told = zones_with(worths(9), ring=(10, 1), borders=worths(0), steps=worths(3), first=4)
        self.assertEqual(told, [([(3, 1)], (7, 1))])
        told = zones_with(worths(None, 9), ring=(10, 1), borders=worths(0), steps=worths(3), first=-4)
        self.assertEqual(told, [([(3, 1)], (8, 1))])
        with soon():
            told = zones_with(worths(9), ring=(10, 1), borders=worths(0), steps=worths(3), first=FAR)
            self.assertEqual(told, [([(3, 1)], (9, 1))])

    def test_a_worth_beyond_the_ring(self):
        for seen in ((10,), (-1,), (11, 3), (3, 10)):
            self.assertEqual(zones_with(worths(*seen), **self.SO), [])
        self.assertEqual(len(zones_with(worths(0), **self.SO)), 9)

    def test_one_zone_and_twelve(self):
        self.assertEqual(zones_with(worths(3, 5), ring=(7, 1), borders=worths(0), steps=worths(1, 2)),
                         [([(2, 1)], (3, 1))])
        borders = worths(*range(0, 120, 10))
        told = zones_with(worths(113), ring=(120, 1), borders=borders, steps=worths(2, 1))
        self.assertEqual(len(told), 4096)
        self.assertEqual([told[at][0][-3:] for at in range(4)],
                         [worths(2, 2, 2), worths(2, 2, 1), worths(2, 1, 2), worths(2, 1, 1)])
        self.assertEqual([steps for steps, _ in told], [list(steps) for steps in product(worths(2, 1), repeat=12)])

    def test_what_are_no_worths_seen(self):
        for seen in (*ODD_THINGS, [], [None], worths(*[3] * 61), ((3, 1),), [(3, 1), (2, 4)]):
            with self.subTest(seen=seen), self.assertRaises(NoWorth):
                zones_with(seen, **self.SO)

    def why_of(self, seen=((3, 1),), **told):
        with self.assertRaises(NoRule) as caught:
            zones_with(list(seen), **{**self.SO, **told})
        return caught.exception.why

    def test_what_is_no_ring(self):
        for ring in (*NO_WORTHS, (0, 1), (-10, 1)):
            with self.subTest(ring=ring):
                self.assertEqual(self.why_of(ring=ring), "ring")

    def test_what_are_no_borders(self):
        for borders in (*ODD_THINGS, [], worths(1), worths(0, 10), worths(0, 4, 4), worths(0, 4, 3), worths(0, 11),
                        ((0, 1), (4, 1)), [(0, 1), (8, 2)], worths(0, *[at for at in range(-3, 9)])):
            with self.subTest(borders=borders):
                self.assertEqual(self.why_of(borders=borders), "borders")
        many = worths(*range(13))
        self.assertEqual(self.why_of(ring=(20, 1), borders=many, steps=worths(1)), "borders")

    def test_what_are_no_steps(self):
        for steps in (*ODD_THINGS, [], worths(1, 0), worths(1, -1), worths(1, 2, 1), ((1, 1), (2, 1)), [(2, 4)],
                      *[[(1, 1), thing] for thing in NO_WORTHS]):
            with self.subTest(steps=steps):
                self.assertEqual(self.why_of(steps=steps), "steps")

    def test_more_choices_than_may_be(self):
        for borders, steps in ((1, 4096), (2, 64), (3, 16), (4, 8), (6, 4)):
            told = zones_with(worths(0), ring=(10, 1), borders=worths(*range(borders)),
                              steps=worths(*range(1, steps + 1)))
            self.assertEqual(len(told), 4096)
        for borders, steps in ((1, 4097), (2, 65), (3, 17), (4, 9), (5, 6), (12, 3)):
            with self.subTest(borders=borders), self.assertRaises(TooMany):
                zones_with(worths(0), ring=(20, 1), borders=worths(*range(borders)),
                           steps=worths(*range(1, steps + 1)))
        with self.assertRaises(TooMany):
            zones_with(worths(99), ring=(20, 1), borders=worths(0), steps=worths(*range(1, 4098)))

    def test_which_refusal_comes_first(self):
        many = worths(*range(1, 4098))
        with self.assertRaises(NoWorth):
            zones_with([], ring=None, borders=None, steps=None)
        self.assertEqual(self.why_of(ring=None, borders=None, steps=None), "ring")
        self.assertEqual(self.why_of(borders=None, steps=None), "borders")
        self.assertEqual(self.why_of(borders=[], steps=many), "borders")
        self.assertEqual(self.why_of(steps=many + worths(0)), "steps")

    def test_lists_that_were_handed_in_or_told(self):
        so = {"ring": (10, 1), "borders": worths(0, 4), "steps": worths(2, 3)}
        told = zones_with(worths(3), **so)
        self.assertEqual(so, {"ring": (10, 1), "borders": worths(0, 4), "steps": worths(2, 3)})
        again = zones_with(worths(3), **so)
        told[0][0].append("new")
        told[1][0].clear()
        self.assertEqual(told[2:], again[2:])
        self.assertEqual(again[:2], [(worths(2, 2), (3, 1)), (worths(2, 3), (3, 1))])
        self.assertEqual(so["steps"], worths(2, 3))

    def test_how_it_is_handed_in(self):
        with self.assertRaises(TypeError):
            zones_with(worths(3), (10, 1), worths(0), worths(2))
        told = zones_with(first=1, steps=worths(2), borders=worths(0), ring=(10, 1), worths=worths(3))
        self.assertEqual(told, [(worths(2), (1, 1))])


# These two lines are alike for ever, as the document tells.
WIDE = whole_line(0, 10, 10, 3)
NARROW = whole_line(1, 9, 8, 3)
# Of a ring of 60 one goes on by 1 and one by 1 to 30, by 2 then: they part behind 30 rows.
SLOW = counted(60)
FAST = zones_of(60, (0, 30), (1, 2), (0, 1))


class OfParting(unittest.TestCase):
    """Point 22: parts_at."""

    def test_rules_that_part_at_once_and_later(self):
        self.assertEqual(parts_at(SLOW, counted(60, at=1)), 0)
        self.assertEqual(parts_at(SLOW, FAST), 31)
        self.assertEqual(parts_at(FAST, SLOW), 31)
        self.assertEqual(parts_at(whole_line(0, 10, 3, 0), whole_line(0, 11, 3, 0)), 4)

    def test_rules_that_never_part(self):
        self.assertIsNone(parts_at(WIDE, NARROW))
        self.assertIsNone(parts_at(NARROW, WIDE, first=-FAR))
        self.assertIsNone(parts_at(SLOW, counted(60)))
        self.assertIsNone(parts_at(WIDE, WIDE))
        # A line in the middle between its bounds, and its step from the one to the other, stays there.
        self.assertIsNone(parts_at(whole_line(0, 10, 10, 5), whole_line(4, 6, 2, 5, False)))

    def test_from_a_first_row_on(self):
        for first, row in ((0, 31), (31, 31), (30, 31), (32, 32), (-1, -1), (59, 59)):
            with self.subTest(first=first):
                told = parts_at(SLOW, FAST, first=first)
                tried = next(row for row in range(first, first + 200) if SLOW.value(row) != FAST.value(row))
                self.assertEqual((told, told), (tried, row))

    def test_from_a_row_far_off(self):
        with soon():
            for first in (FAR, -FAR, FAR - 17):
                told = parts_at(SLOW, FAST, first=first)
                tried = next(row for row in range(first, first + 200) if SLOW.value(row) != FAST.value(row))
                self.assertEqual(told, tried)

    def test_a_line_with_zones(self):
        # Up to 30 the line goes as the zones do; 2 alike it goes on where a turn is at the zones' end.
        line = whole_line(0, 30, 1, 0)
        self.assertEqual(parts_at(line, counted(60)), 31)
        self.assertEqual(parts_at(counted(60), line, first=31), 31)
        zones = Zones(ring=(2, 1), borders=[(0, 1)], steps=[(1, 1)], at=(0, 1))
        self.assertIsNone(parts_at(whole_line(0, 1, 1, 0), zones))
        self.assertEqual(parts_at(whole_line(0, 1, 1, 1), zones, first=5), 5)

    def test_just_behind_as_many_rows_alike_as_there_can_be(self):
        # Behind p and q rows they come again; alike in p + q less 2 they part at the next row.
        for one, other in ((4, 7), (5, 6), (1, 9)):
            needed = one + other - gcd(one, other)
            longest = 0
            for first in range(one * other):
                for at in range(other):
                    row = parts_at(counted(one), counted(other, at=at), first=first)
                    if row is not None:
                        longest = max(longest, row - first)
            self.assertLess(longest, needed)

    def test_by_the_words_of_the_document(self):
        lines = [whole_line(low, high, step, at, up) for low, high, step, at, up in (
            (0, 10, 10, 3, True), (1, 9, 8, 3, True), (0, 10, 10, 3, False), (0, 6, 4, 3, True), (1, 5, 2, 3, True),
            (0, 6, 6, 3, True), (2, 4, 1, 3, True))]
        for one, other in product(lines, repeat=2):
            for first in (0, 5, -3):
                rows = [row for row in range(first, first + 100) if one.value(row) != other.value(row)]
                self.assertEqual(parts_at(one, other, first=first), rows[0] if rows else None)

    def test_five_thousand_rows_alike(self):
        long = counted(5000)
        self.assertIsNone(parts_at(long, counted(5000)))
        self.assertIsNone(parts_at(long, counted(5000), first=-7))
        with self.assertRaises(TooMany):
            parts_at(counted(5001), counted(5001))
        with self.assertRaises(TooMany):
            # 2,501 and 5,002 rows: p + q - g is 5,002, though the line is alike with itself.
            parts_at(whole_line(0, 2501, 1, 0), whole_line(0, 2501, 1, 0))

    def test_they_part_late_where_more_rows_than_that_would_be_needed(self):
        for row in (4998, 4999):
            zones = zones_of(100000, (0, row - 1), (1, 2), (0, 1))
            self.assertEqual(parts_at(counted(100000), zones), row)
        zones = zones_of(100000, (0, 4999), (1, 2), (0, 1))
        with self.assertRaises(TooMany):
            parts_at(counted(100000), zones)
        self.assertEqual(parts_at(counted(100000), zones, first=1), 5000)
        self.assertEqual(parts_at(counted(100000), zones, first=6000), 6000)

    def test_rules_that_come_again_behind_unlike_numbers_of_rows(self):
        # In the middle, and going from the one bound to the other, a line stays where it is: behind 2 rows
        # it goes the same way again, and the zones are the same again behind each row.
        still, same = whole_line(0, 10, 10, 5), zones_of(10, (0,), (10,), (5, 1))
        self.assertEqual((still.returns()[0], same.returns()[0]), (2, 1))
        self.assertIsNone(parts_at(still, same))
        self.assertIsNone(parts_at(same, still, first=-FAR))
        for rows in (2500, 4998, 4999):
            self.assertEqual(parts_at(counted(rows), counted(rows + 1)), rows)
        with self.assertRaises(TooMany):
            parts_at(counted(5000), counted(5001))

    def test_how_it_is_handed_in(self):
        with self.assertRaises(TypeError):
            parts_at(SLOW, FAST, 5)
        self.assertEqual(parts_at(first=40, other=FAST, one=SLOW), 40)


class OfSettling(unittest.TestCase):
    """Point 22: settled_by."""

    def told_by_pairs(self, rules, first=0):
        """The same by parts_at of each two, as the document tells it."""
        parts = {(one, other): parts_at(rules[one], rules[other], first=first)
                 for one, other in product(range(len(rules)), repeat=2)}
        many = max([row - first + 1 for row in parts.values() if row is not None], default=0)
        lots = []
        for one in range(len(rules)):
            lot = [other for other in range(len(rules)) if parts[one, other] is None]
            if lot[0] == one:
                lots.append(lot)
        return (many, lots)

    def test_one_rule_and_two(self):
        self.assertEqual(settled_by([WIDE]), (0, [[0]]))
        self.assertEqual(settled_by([WIDE, NARROW]), (0, [[0, 1]]))
        self.assertEqual(settled_by([SLOW, FAST]), (32, [[0], [1]]))
        self.assertEqual(settled_by([SLOW, FAST], first=31), (1, [[0], [1]]))
        self.assertEqual(settled_by([SLOW, WIDE]), (1, [[0], [1]]))

    def test_lots_by_their_first_numbers(self):
        rules = [FAST, WIDE, SLOW, NARROW, counted(60), WIDE, whole_line(0, 10, 10, 7)]
        self.assertEqual(settled_by(rules), (32, [[0], [1, 3, 5], [2, 4], [6]]))
        self.assertEqual(settled_by(rules), self.told_by_pairs(rules))

    def test_lots_that_are_told_apart_out_of_order(self):
        # The first and the last one are together longest, and what is between leaves them earlier.
        late = [zones_of(100, (0, row), (1, 2), (0, 1)) for row in (9, 3, 7, 5, 9, 1)]
        self.assertEqual(settled_by(late), (9, [[0, 4], [1], [2], [3], [5]]))
        for first in (0, 4, 50, -7, FAR):
            self.assertEqual(settled_by(late, first=first), self.told_by_pairs(late, first))

    def test_by_the_words_of_the_document(self):
        rules = [whole_line(low, high, step, 3, up) for low, high, step in (
            (0, 10, 10), (1, 9, 8), (0, 6, 4), (1, 5, 2), (0, 6, 6), (2, 4, 1), (0, 10, 3)) for up in (True, False)]
        for first in (0, 1, -5, 20):
            self.assertEqual(settled_by(rules, first=first), self.told_by_pairs(rules, first))

    def test_one_rule_and_forty(self):
        rules = [counted(50, at=at) for at in range(40)]
        self.assertEqual(settled_by(rules), (1, [[at] for at in range(40)]))
        self.assertEqual(settled_by([WIDE, NARROW] * 20), (0, [list(range(40))]))

    def test_more_or_fewer_rules(self):
        for rules in (*ODD_THINGS, [], [WIDE] * 41, (WIDE, NARROW), {0: WIDE}, WIDE, [None], [WIDE, "line"]):
            with self.subTest(rules=rules), self.assertRaises(TooMany):
                settled_by(rules)

    def test_two_that_may_part_late(self):
        with self.assertRaises(TooMany):
            settled_by([counted(5001), counted(5001)])
        with self.assertRaises(TooMany):
            settled_by([SLOW, counted(5001), FAST, counted(5001)])
        self.assertEqual(settled_by([counted(5001)]), (0, [[0]]))
        self.assertEqual(settled_by([counted(5000), counted(5000)]), (0, [[0, 1]]))
        self.assertEqual(settled_by([counted(5001), counted(5002)], first=2), (5000, [[0], [1]]))
        with self.assertRaises(TooMany):
            settled_by([counted(5001), counted(5002)], first=1)

    def test_lists_that_were_handed_in_or_told(self):
        rules = [WIDE, SLOW, NARROW]
        many, lots = settled_by(rules)
        self.assertEqual((rules[0], rules[1], rules[2], len(rules)), (WIDE, SLOW, NARROW, 3))
        lots[0].append("new")
        lots.pop()
        self.assertEqual(settled_by(rules), (many, [[0, 2], [1]]))

    def test_how_it_is_handed_in(self):
        with self.assertRaises(TypeError):
            settled_by([WIDE], 0)
        self.assertEqual(settled_by(first=31, rules=[SLOW, FAST]), (1, [[0], [1]]))


class OfTablesParted(unittest.TestCase):
    """Point 23."""

    ONE = Table([("a", SLOW), ("b", WIDE), ("c", ("sum", "a", "b")), ("d", SLOW)])
    OTHER = Table([("d", counted(60)), ("c", FAST), ("b", NARROW), ("a", FAST), ("e", SLOW)])

    def test_the_first_row_and_name(self):
        table = Table([("a", FAST), ("b", NARROW)])
        self.assertEqual(tables_part(self.ONE, table), (31, "a"))
        self.assertEqual(tables_part(table, self.ONE), (31, "a"))
        self.assertEqual(tables_part(self.ONE, self.OTHER), (0, "c"))

    def test_of_several_names_the_first_in_the_one_s_order(self):
        one = Table([("b", SLOW), ("a", SLOW), ("c", SLOW)])
        other = Table([("c", FAST), ("a", FAST), ("b", FAST)])
        self.assertEqual(tables_part(one, other), (31, "b"))
        self.assertEqual(tables_part(other, one), (31, "c"))
        self.assertEqual(tables_part(one, Table([("c", FAST), ("a", FAST)])), (31, "a"))

    def test_the_first_row_whatever_column(self):
        later = zones_of(60, (0, 40), (1, 2), (0, 1))
        one = Table([("x", SLOW), ("y", SLOW), ("z", SLOW)])
        self.assertEqual(tables_part(one, Table([("x", later), ("y", FAST), ("z", later)])), (31, "y"))
        self.assertEqual(tables_part(one, Table([("z", FAST), ("y", later)])), (31, "z"))

    def test_never(self):
        one = Table([("a", WIDE), ("b", SLOW), ("c", FAST)])
        self.assertIsNone(tables_part(one, Table([("b", counted(60)), ("a", NARROW)])))
        self.assertIsNone(tables_part(one, one))
        # Columns that are made otherwise may be alike, too.
        other = Table([("x", SLOW), ("y", ("less", "x", "x")), ("b", ("sum", "x", "y"))])
        self.assertIsNone(tables_part(one, other))

    def test_from_a_first_row_on(self):
        one, other = Table([("a", SLOW), ("b", WIDE)]), Table([("a", FAST), ("b", whole_line(0, 10, 10, 7))])
        self.assertEqual(tables_part(one, other), (0, "b"))
        one, other = Table([("a", SLOW)]), Table([("a", FAST)])
        with soon():
            for first in (0, 31, 40, -1, FAR, -FAR):
                tried = next(row for row in range(first, first + 200) if SLOW.value(row) != FAST.value(row))
                self.assertEqual(tables_part(one, other, first=first), (tried, "a"))

    def test_no_name_in_common(self):
        for one, other, name in ((Table([("x", SLOW), ("y", SLOW)]), self.OTHER, "x"),
                                 (self.ONE, Table([("x", SLOW)]), "a")):
            with self.assertRaises(NoColumn) as caught:
                tables_part(one, other)
            self.assertEqual(caught.exception.name, name)

    def test_columns_that_never_come_again(self):
        along = Table([("a", SLOW), ("way", ("along", "a", (0, 1))), ("b", SLOW)])
        plain = Table([("way", SLOW), ("a", SLOW)])
        for one, other in ((along, plain), (plain, along), (along, along)):
            with self.assertRaises(NoReturn):
                tables_part(one, other)
        # What but one of the two has plays no part.
        self.assertIsNone(tables_part(along, Table([("b", SLOW), ("a", SLOW)])))
        self.assertEqual(tables_part(Table([("a", FAST)]), along), (31, "a"))

    def test_too_many_rows(self):
        long = counted(5001)
        table = Table([("a", long), ("b", SLOW)])
        with self.assertRaises(TooMany):
            tables_part(table, table)
        self.assertIsNone(tables_part(table, Table([("b", SLOW)])))
        self.assertEqual(tables_part(table, Table([("a", counted(5001, at=1))])), (0, "a"))
        self.assertEqual(tables_part(table, Table([("a", counted(5002))]), first=2), (5001, "a"))
        # One column that can't be told is enough, wherever it stands, and though another one parts.
        for one, other in (([("a", long), ("b", SLOW)], [("a", long), ("b", FAST)]),
                           ([("b", SLOW), ("a", long)], [("b", FAST), ("a", long)])):
            with self.assertRaises(TooMany):
                tables_part(Table(one), Table(other))

    def test_a_return_that_can_not_be_told(self):
        # The sum of more than 5,000 rows would be needed: ahead of a column that never comes again.
        long = Table([("a", counted(5001)), ("b", ("along", "a", (0, 1)))])
        with self.assertRaises(TooMany):
            tables_part(Table([("b", SLOW)]), long)
        with self.assertRaises(TooMany):
            tables_part(long, Table([("b", SLOW)]))

    def test_which_refusal_comes_first(self):
        # The first column can't be told in 5,000 rows, the second one never comes again.
        one = Table([("a", counted(5001)), ("b", SLOW), ("way", ("along", "b", (0, 1)))])
        with self.assertRaises(NoReturn):
            tables_part(one, one)
        self.assertRaises(TooMany, tables_part, one, Table([("a", counted(5001)), ("b", SLOW)]))
        self.assertRaises(NoColumn, tables_part, Table([("x", SLOW), ("y", ("along", "x", (0, 1)))]), one)

    def test_how_it_is_handed_in(self):
        with self.assertRaises(TypeError):
            tables_part(self.ONE, self.OTHER, 5)
        self.assertEqual(tables_part(first=3, other=self.OTHER, one=self.ONE), (3, "c"))


class OfPointTwo(unittest.TestCase):
    """Point 2: asked again, the same is told."""

    def test_again(self):
        for _ in range(2):
            self.assertEqual(parts_at(SLOW, FAST), 31)
            self.assertEqual(settled_by([SLOW, FAST, WIDE, NARROW]), (32, [[0], [1], [2, 3]]))
            self.assertEqual(tables_part(OfTablesParted.ONE, OfTablesParted.OTHER), (0, "c"))


if __name__ == "__main__":
    unittest.main()
