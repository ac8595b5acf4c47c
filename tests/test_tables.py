"""Points 12 to 15: tables; points 2, 3 and 4 as they hold for these."""

import unittest
from fractions import Fraction
from math import lcm

from helpers import FAR, NO_WORTHS, ODD_THINGS, fraction_of, soon, worth_of
from tabletsky.errors import NoColumn, NoReturn, NoRule, TooMany
from tabletsky.lines import Line
from tabletsky.tables import Table
from tabletsky.zones import Zones

MOON = Line(low=(0, 1), high=(2, 1), step=(1, 1), at=(0, 1))
SUN = Line(low=(1, 2), high=(7, 2), step=(1, 1), at=(5, 2), up=False)
RING = Zones(ring=(10, 1), borders=[(0, 1), (4, 1)], steps=[(2, 1), (3, 1)], at=(3, 1))
LEVEL = [((0, 1), (1, 1)), ((1, 1), (1, 1))]
BENT = [((-1, 1), (3, 1)), ((1, 2), (-2, 1)), ((3, 2), (0, 1)), ((2, 1), (7, 3))]
# The moon is 0, 1, 2, 1; less 1 it comes to nothing in a return.
COLUMNS = [
    ("moon", MOON), ("one", ("by", "moon", LEVEL)), ("off", ("less", "moon", "one")),
    ("sun", SUN), ("ring", RING), ("both", ("sum", "sun", "ring")), ("bent", ("by", "off", BENT)),
    ("far", ("times", "both", (-7, 3))), ("way", ("along", "off", (5, 1))), ("more", ("along", "both", (-1, 4))),
    ("late", ("sum", "way", "bent")), ("twice", ("along", "way", (1, 3))),
]


def counted(rows, start=0):
    """Zones that tell 0, 1, 2 and so on from start, again behind so many rows."""
    return Zones(ring=(rows, 1), borders=[(0, 1)], steps=[(1, 1)], at=(start, 1))


def even(rows):
    """Columns of which ``even`` comes to nothing in its return of so many rows."""
    corners = [((0, 1), worth_of(Fraction(1 - rows, 2))), ((1, 1), worth_of(Fraction(3 - rows, 2)))]
    return [("count", counted(rows)), ("even", ("by", "count", corners))]


def bent(corners, thing):
    """The worth on the straight lines through corners, the first and the last one gone on."""
    corners = [(fraction_of(x), fraction_of(y)) for x, y in corners]
    pairs = list(zip(corners, corners[1:]))
    inside = [pair for pair in pairs if pair[0][0] <= thing <= pair[1][0]]
    (x, y), (end, there) = inside[0] if inside else pairs[0] if thing < corners[0][0] else pairs[-1]
    return y + (thing - x) * (there - y) / (end - x)


def by_words(columns, many):
    """For each name the worths of rows from -many to many, by row, by the words of point 12."""
    told = {}
    for name, made in columns:
        rows = range(-many, many + 1)
        if not isinstance(made, tuple):
            told[name] = {row: fraction_of(made.value(row)) for row in rows}
            continue
        kind, source, more = made
        worths = told[source]
        if kind == "sum":
            told[name] = {row: worths[row] + told[more][row] for row in rows}
        elif kind == "less":
            told[name] = {row: worths[row] - told[more][row] for row in rows}
        elif kind == "times":
            told[name] = {row: worths[row] * fraction_of(more) for row in rows}
        elif kind == "by":
            told[name] = {row: bent(more, worths[row]) for row in rows}
        else:
            along = {0: fraction_of(more)}
            for row in range(many):
                along[row + 1] = along[row] + worths[row]
                along[-row - 1] = along[-row] - worths[-row - 1]
            told[name] = along
    return told


class OfColumns(unittest.TestCase):
    """Points 12 and 13: what columns tell."""

    def test_sums_and_what_is_less(self):
        table = Table([("a", MOON), ("b", SUN), ("c", ("sum", "a", "b")), ("d", ("less", "a", "b")),
                       ("e", ("less", "b", "a")), ("f", ("sum", "a", "a"))])
        self.assertEqual([table.value("a", row) for row in range(4)], [(0, 1), (1, 1), (2, 1), (1, 1)])
        self.assertEqual([table.value("b", row) for row in range(4)], [(5, 2), (3, 2), (1, 2), (3, 2)])
        self.assertEqual([table.value("c", row) for row in range(4)], [(5, 2)] * 4)
        self.assertEqual([table.value("d", row) for row in range(4)], [(-5, 2), (-1, 2), (3, 2), (-1, 2)])
        self.assertEqual([table.value("e", row) for row in range(4)], [(5, 2), (1, 2), (-3, 2), (1, 2)])
        self.assertEqual([table.value("f", row) for row in range(4)], [(0, 1), (2, 1), (4, 1), (2, 1)])

    def test_times(self):
        for many, told in (((3, 1), [(0, 1), (3, 1), (6, 1), (3, 1)]), ((-1, 2), [(0, 1), (-1, 2), (-1, 1), (-1, 2)]),
                           ((0, 1), [(0, 1)] * 4)):
            table = Table([("a", MOON), ("b", ("times", "a", many))])
            self.assertEqual([table.value("b", row) for row in range(4)], told)

    def test_along(self):
        table = Table([("a", MOON), ("b", ("along", "a", (-7, 2)))])
        self.assertEqual([table.value("b", row) for row in range(6)],
                         [(-7, 2), (-7, 2), (-5, 2), (-1, 2), (1, 2), (1, 2)])
        self.assertEqual([table.value("b", -row) for row in range(6)],
                         [(-7, 2), (-9, 2), (-13, 2), (-15, 2), (-15, 2), (-17, 2)])

    def test_by_corners(self):
        corners = [((2, 1), (10, 1)), ((4, 1), (0, 1)), ((8, 1), (2, 1))]
        table = Table([("a", counted(12)), ("b", ("by", "a", corners))])
        told = [fraction_of(table.value("b", row)) for row in range(12)]
        half = Fraction(1, 2)
        self.assertEqual(told, [20, 15, 10, 5, 0, half, 1, 3 * half, 2, 5 * half, 3, 7 * half])

    def test_by_two_corners_and_twelve(self):
        table = Table([("a", counted(16)), ("b", ("by", "a", [((5, 1), (1, 1)), ((7, 1), (0, 1))]))])
        self.assertEqual([table.value("b", row) for row in (0, 5, 6, 7, 15)],
                         [(7, 2), (1, 1), (1, 2), (0, 1), (-4, 1)])
        corners = [((x, 1), (x * x, 1)) for x in range(2, 14)]
        table = Table([("a", counted(16)), ("b", ("by", "a", corners))])
        told = [table.value("b", row)[0] for row in range(16)]
        self.assertEqual(told, [-6, -1, *[x * x for x in range(2, 14)], 194, 219])

    def test_corners_of_worths_below_nought(self):
        corners = [((-3, 1), (1, 1)), ((-1, 1), (5, 1)), ((0, 1), (0, 1))]
        table = Table([("a", counted(6)), ("b", ("times", "a", (-1, 1))), ("c", ("by", "b", corners))])
        self.assertEqual([table.value("c", row)[0] for row in range(6)], [0, 5, 3, 1, -1, -3])

    def test_by_the_words_of_the_document(self):
        table = Table(COLUMNS)
        for name, worths in by_words(COLUMNS, 80).items():
            with self.subTest(name=name):
                told = {row: fraction_of(table.value(name, row)) for row in worths}
                self.assertEqual(told, worths)

    def test_worths_are_told_in_lowest_terms(self):
        table = Table(COLUMNS)
        for row in range(-9, 10):
            for worth in table.line(row):
                self.assertEqual(worth, worth_of(fraction_of(worth)))
                self.assertEqual([type(worth), type(worth[0]), type(worth[1])], [tuple, int, int])

    def test_line_tells_all_columns_in_their_order(self):
        table = Table(COLUMNS)
        for row in (-5000, -7, -1, 0, 1, 2, 30, 5000):
            told = table.line(row)
            self.assertIs(type(told), list)
            self.assertEqual(told, [table.value(name, row) for name, _ in COLUMNS])

    def test_names_and_rules(self):
        table = Table(COLUMNS)
        self.assertEqual(table.names(), [name for name, _ in COLUMNS])
        for name, made in COLUMNS:
            told = table.rule_of(name)
            self.assertIs(type(told), type(made))
            if isinstance(made, tuple):
                self.assertEqual(told, made)
            else:
                self.assertEqual([told.value(row) for row in range(9)], [made.value(row) for row in range(9)])

    def test_one_column_and_twelve(self):
        self.assertEqual(Table([("a", MOON)]).names(), ["a"])
        self.assertEqual(len(Table(COLUMNS).names()), 12)

    def test_names_of_one_letter_and_of_eight(self):
        table = Table([("a", MOON), ("z", MOON), ("abcdefgh", ("sum", "a", "z")), ("stuvwxyz", RING)])
        self.assertEqual(table.value("abcdefgh", 2), (4, 1))

    def test_how_it_is_handed_in(self):
        table = Table(columns=COLUMNS)
        self.assertEqual(table.value(name="moon", row=2), (2, 1))
        self.assertEqual(table.line(row=2), table.line(2))
        self.assertEqual(table.return_of(name="moon"), 4)
        self.assertEqual(table.rule_of(name="bent"), ("by", "off", BENT))


class OfNamesThatAreNotThere(unittest.TestCase):
    """Point 13: NoColumn."""

    def assert_no_column(self, asked, name):
        with self.assertRaises(NoColumn) as caught:
            asked(name)
        self.assertIs(caught.exception.name, name)

    def test_of_any_kind(self):
        table = Table(COLUMNS)
        names = (*ODD_THINGS, "nine", "moons", "moo", "MOON", " moon", "moon\n", ["moon"], ("moon",),
                 b"moon", MOON, table, Table, {"moon": 1})
        for name in names:
            with self.subTest(name=name):
                self.assert_no_column(lambda thing: table.value(thing, 0), name)
                self.assert_no_column(table.rule_of, name)
                self.assert_no_column(table.return_of, name)

    def test_ahead_of_too_many(self):
        table = Table([("a", counted(5001)), ("b", ("along", "a", (0, 1)))])
        self.assert_no_column(lambda name: table.value(name, FAR), "c")
        self.assert_no_column(table.return_of, "c")

    def test_what_is_refused_changes_nothing(self):
        table = Table(COLUMNS)
        with self.assertRaises(NoColumn):
            table.value("new", 0)
        self.assertEqual(table.names(), [name for name, _ in COLUMNS])


class OfRefusals(unittest.TestCase):
    """Point 12: what is no table."""

    SO = [("a", MOON), ("b", RING), ("c", ("sum", "a", "b"))]

    def why_of(self, columns):
        with self.assertRaises(NoRule) as caught:
            Table(columns)
        return caught.exception.why

    def assert_not_made(self, made):
        for ahead in (self.SO, [*self.SO, ("d", ("times", "c", (2, 1)))]):
            self.assertEqual(self.why_of([*ahead, ("x", made)]), len(ahead))
            self.assertEqual(self.why_of([*ahead, ("x", made), ("y", None)]), len(ahead))

    def test_what_is_no_list_of_columns(self):
        for columns in (*ODD_THINGS, tuple(self.SO), dict(self.SO), MOON, Table(self.SO), "a"):
            with self.subTest(columns=columns):
                self.assertEqual(self.why_of(columns), "columns")

    def test_how_many_columns(self):
        self.assertEqual(self.why_of([]), "columns")
        for many in (13, 14, 26):
            columns = [(letter, MOON) for letter in "abcdefghijklmnopqrstuvwxyz"[:many]]
            self.assertEqual(self.why_of(columns), "columns")
            self.assertEqual(self.why_of([None, *columns[1:]]), "columns")
        Table([(letter, MOON) for letter in "abcdefghijkl"])

    def test_what_is_no_column(self):
        for thing in (*ODD_THINGS, MOON, ["x", MOON], ("x",), ("x", MOON, MOON), (MOON, "x"), "xy"):
            with self.subTest(thing=thing):
                self.assertEqual(self.why_of([thing]), 0)
                self.assertEqual(self.why_of([*self.SO, thing, None]), 3)

    def test_what_is_no_name(self):
        for name in (*ODD_THINGS, "abcdefghi", "abcdefghij", "Moon", "mooN", "a1", "1", "a b", " a", "a ",
                     "a_b", "a-b", "a\n", "\n", "a,b", "?", "{", "`", ["x"], ("x",)):
            with self.subTest(name=name):
                self.assertEqual(self.why_of([(name, MOON)]), 0)
                self.assertEqual(self.why_of([*self.SO, (name, MOON), None]), 3)

    def test_names_told_twice(self):
        self.assertEqual(self.why_of([("a", MOON), ("a", RING)]), 1)
        self.assertEqual(self.why_of([*self.SO, ("b", MOON)]), 3)
        self.assertEqual(self.why_of([*self.SO, ("d", MOON), ("e", MOON), ("d", ("sum", "a", "b"))]), 5)

    def test_what_makes_no_column(self):
        for made in (*ODD_THINGS, "a", "sum", Line, Zones, Table(self.SO), [MOON], (MOON,), ["sum", "a", "b"], ("sum",),
                     ("sum", "a"), ("sum", "a", "b", "c"), ("along", "a", (1, 1), (1, 1)),
                     ("sums", "a", "b"), ("SUM", "a", "b"), ("", "a", "b"), (None, "a", "b"), (["sum"], "a", "b"),
                     ("a", "sum", "b"), (0, 1, 2), ("sum", ("a", "b"), None), ("over", "a", (1, 1)),
                     ("line", "a", "b"), ("b", "a", LEVEL)):
            with self.subTest(made=made):
                self.assert_not_made(made)

    def test_columns_that_are_not_ahead(self):
        for kind, more in (("sum", "a"), ("less", "a"), ("times", (2, 1)), ("along", (2, 1)), ("by", LEVEL)):
            for source in ("x", "y", "z", "A", "", "ab", *ODD_THINGS, ["a"], ("a",), MOON):
                with self.subTest(kind=kind, source=source):
                    self.assert_not_made((kind, source, more))
        for kind in ("sum", "less"):
            for more in ("x", "y", "z", "", *ODD_THINGS, ["a"], (2, 1), LEVEL, MOON):
                with self.subTest(kind=kind, more=more):
                    self.assert_not_made((kind, "a", more))

    def test_a_column_behind_is_not_ahead(self):
        self.assertEqual(self.why_of([("a", ("times", "b", (2, 1))), ("b", MOON)]), 0)
        self.assertEqual(self.why_of([("a", MOON), ("b", ("sum", "a", "c")), ("c", MOON)]), 1)

    def test_times_and_along_what_is_no_worth(self):
        for kind in ("times", "along"):
            for more in (*NO_WORTHS, "a", "b", LEVEL):
                with self.subTest(kind=kind, more=more):
                    self.assert_not_made((kind, "a", more))

    def test_corners_that_are_no_such_list(self):
        for corners in (*ODD_THINGS, tuple(LEVEL), dict(LEVEL), (1, 1), "a", LEVEL[0], MOON):
            with self.subTest(corners=corners):
                self.assert_not_made(("by", "a", corners))

    def test_how_many_corners(self):
        for many in (0, 1, 13, 14):
            self.assert_not_made(("by", "a", [((x, 1), (x, 1)) for x in range(many)]))
        for many in (2, 12):
            Table([("a", MOON), ("x", ("by", "a", [((x, 1), (x, 1)) for x in range(many)]))])

    def test_corners_that_are_not_so(self):
        for corner in (*ODD_THINGS, [(3, 1), (3, 1)], ((3, 1),), ((3, 1), (3, 1), (3, 1)), (3, 3)):
            with self.subTest(corner=corner):
                self.assert_not_made(("by", "a", [((1, 1), (1, 1)), ((2, 1), (1, 1)), corner]))
                self.assert_not_made(("by", "a", [corner, ((4, 1), (1, 1)), ((5, 1), (1, 1))]))
        for thing in NO_WORTHS:
            with self.subTest(thing=thing):
                for corner in ((thing, (1, 1)), ((5, 1), thing)):
                    self.assert_not_made(("by", "a", [((1, 1), (1, 1)), corner]))
                    self.assert_not_made(("by", "a", [corner, ((9, 1), (1, 1))]))

    def test_corners_that_do_not_rise(self):
        for numbers in ((0, 0), (1, 0), (0, 1, 1), (0, 2, 1), (0, -1), (0, 0, 1), (0, 1, 2, 3, 3), (0, 1, 2, 1, 4)):
            self.assert_not_made(("by", "a", [((x, 1), (at, 1)) for at, x in enumerate(numbers)]))
        self.assert_not_made(("by", "a", [((1, 2), (0, 1)), ((1, 3), (1, 1))]))
        Table([("a", MOON), ("x", ("by", "a", [((1, 3), (1, 1)), ((1, 2), (0, 1))]))])

    def test_the_first_column_that_is_not_so_is_told(self):
        wrong = ("x", ("sum", "a", "q"))
        for at in range(4):
            columns = [("a", MOON), ("b", MOON), ("c", MOON), ("d", MOON)]
            columns[at] = wrong
            self.assertEqual(self.why_of(columns), at)
            self.assertEqual(self.why_of(columns[:at + 1] + [wrong] * (11 - at)), at)


class OfWhatIsHandedIn(unittest.TestCase):
    """Point 2: lists that were handed in or told are not the table's."""

    def test_lists_that_were_handed_in(self):
        corners = list(BENT)
        columns = [("a", MOON), ("b", ("by", "a", corners)), ("c", ("along", "b", (1, 1)))]
        table, same = Table(columns), Table(columns)
        corners[1] = ((1, 2), (100, 1))
        corners.append(None)
        columns[0] = ("a", SUN)
        columns.append(("d", SUN))
        fresh = Table([("a", MOON), ("b", ("by", "a", BENT)), ("c", ("along", "b", (1, 1)))])
        for one in (table, same):
            self.assertEqual(one.names(), ["a", "b", "c"])
            self.assertEqual(one.rule_of("b"), ("by", "a", BENT))
            self.assertEqual([one.line(row) for row in range(-9, 9)], [fresh.line(row) for row in range(-9, 9)])

    def test_nothing_that_is_handed_in_is_changed(self):
        corners = list(BENT)
        columns = [("a", MOON), ("b", ("by", "a", corners)), ("c", ("along", "b", (1, 1)))]
        Table(columns).line(100)
        self.assertEqual(columns, [("a", MOON), ("b", ("by", "a", BENT)), ("c", ("along", "b", (1, 1)))])
        self.assertEqual(corners, BENT)
        refused = [*columns, ("d", None)]
        with self.assertRaises(NoRule):
            Table(refused)
        self.assertEqual(refused, [*columns, ("d", None)])

    def test_lists_that_were_told(self):
        table = Table(COLUMNS)
        before = [table.line(row) for row in range(-9, 9)]
        names = table.names()
        self.assertIs(type(names), list)
        names.reverse()
        names.append("new")
        self.assertEqual(table.names(), [name for name, _ in COLUMNS])
        line = table.line(3)
        line.clear()
        corners = table.rule_of("bent")[2]
        self.assertIs(type(corners), list)
        corners[0] = ((-9, 1), (0, 1))
        corners.pop()
        self.assertEqual(table.rule_of("bent"), ("by", "off", BENT))
        self.assertIsNot(table.rule_of("bent")[2], table.rule_of("bent")[2])
        self.assertEqual([table.line(row) for row in range(-9, 9)], before)

    def test_a_rule_that_was_told_makes_a_table_again(self):
        table = Table(COLUMNS)
        again = Table([(name, table.rule_of(name)) for name in table.names()])
        for row in (-4999, -3, 0, 8, 4999):
            self.assertEqual(again.line(row), table.line(row))

    def test_asked_again_the_same_is_told_in_whatever_order(self):
        rows = list(range(-60, 60)) + [4000, -4000]
        one, other = Table(COLUMNS), Table(COLUMNS)
        forth = {row: one.line(row) for row in rows}
        back = {row: other.line(row) for row in reversed(rows)}
        self.assertEqual(forth, back)
        self.assertEqual({row: one.line(row) for row in reversed(rows)}, forth)
        lone = {row: [Table(COLUMNS).value(name, row) for name, _ in COLUMNS] for row in rows[::17]}
        self.assertEqual(lone, {row: forth[row] for row in rows[::17]})


class OfReturns(unittest.TestCase):
    """Point 14: return_of and returns."""

    def test_of_all_columns(self):
        table = Table(COLUMNS)
        told = {name: table.return_of(name) for name in table.names()}
        self.assertEqual((SUN.returns()[0], RING.returns()[0]), (6, 4))
        # Of the ways along, the one along worths that come to nothing comes again.
        self.assertEqual(told, {"moon": 4, "one": 4, "off": 4, "sun": 6, "ring": 4, "both": 12, "bent": 4, "far": 12,
                                "way": 4, "more": None, "late": 4, "twice": None})

    def test_sums_of_unlike_returns(self):
        for kind in ("sum", "less"):
            for one, other in ((4, 6), (6, 4), (5, 7), (3, 9), (8, 8), (1, 5), (1000, 999)):
                table = Table([("a", counted(one)), ("b", counted(other)), ("c", (kind, "a", "b"))])
                self.assertEqual(table.return_of("c"), lcm(one, other))
                self.assertEqual(table.returns(), lcm(one, other))

    def test_it_need_not_be_the_least(self):
        table = Table([("a", MOON), ("b", ("less", "a", "a")), ("c", ("times", "a", (0, 1))),
                       ("d", ("by", "a", LEVEL))])
        for name in "bcd":
            self.assertEqual(table.return_of(name), 4)

    def test_along_one_that_comes_to_nothing(self):
        for rows in (1, 2, 3, 10, 4999, 5000):
            table = Table([*even(rows), ("way", ("along", "even", (1, 7)))])
            self.assertEqual(table.return_of("way"), rows)

    def test_along_one_that_comes_to_something(self):
        for rows in (2, 3, 10, 4999, 5000):
            table = Table([("a", counted(rows)), ("b", ("along", "a", (1, 7)))])
            self.assertIsNone(table.return_of("b"))

    def test_along_worths_below_nought(self):
        table = Table([("a", MOON), ("b", ("times", "a", (-1, 1))), ("c", ("along", "b", (0, 1)))])
        self.assertIsNone(table.return_of("c"))

    def test_what_is_made_of_one_that_never_comes_again(self):
        columns = [("a", MOON), ("b", ("along", "a", (0, 1)))]
        for made in (("sum", "a", "b"), ("sum", "b", "a"), ("less", "a", "b"), ("less", "b", "b"),
                     ("times", "b", (0, 1)), ("times", "b", (2, 1)), ("by", "b", LEVEL), ("along", "b", (0, 1))):
            table = Table([*columns, ("c", made), ("d", ("times", "c", (0, 1))), ("e", ("along", "d", (0, 1)))])
            for name in "cde":
                self.assertIsNone(table.return_of(name))
            self.assertEqual(table.return_of("a"), 4)

    def test_along_one_that_is_itself_along(self):
        # From 5 on it is 5, 4, 4, 5 and so on; from 1/2 on it comes to nothing, too.
        columns = [*COLUMNS[:3], ("way", ("along", "off", (5, 1)))]
        table = Table([*columns, ("next", ("along", "way", (0, 1)))])
        self.assertEqual([table.value("way", row)[0] for row in range(8)], [5, 4, 4, 5, 5, 4, 4, 5])
        self.assertIsNone(table.return_of("next"))
        columns[3] = ("way", ("along", "off", (1, 2)))
        for start, told in (((0, 1), 4), ((1, 1), None)):
            table = Table([*columns, ("next", ("along", "way", start)), ("last", ("along", "next", (7, 1)))])
            self.assertEqual([table.return_of("way"), table.return_of("next")], [4, 4])
            self.assertEqual(table.return_of("last"), told)

    def test_behind_a_return_the_worths_are_the_same(self):
        table = Table(COLUMNS)
        for name in table.names():
            rows = table.return_of(name)
            if rows is not None:
                for row in range(-20, 20):
                    self.assertEqual(table.value(name, row), table.value(name, row + rows))

    def test_returns_of_a_table(self):
        self.assertEqual(Table([("a", MOON)]).returns(), 4)
        self.assertEqual(Table([("a", MOON), ("b", SUN), ("c", counted(5))]).returns(), 60)
        self.assertEqual(Table(COLUMNS[:9]).returns(), 12)
        self.assertEqual(Table([("a", counted(FAR)), ("b", counted(FAR - 1))]).returns(), FAR * (FAR - 1))

    def test_a_table_that_never_comes_again(self):
        for columns in (COLUMNS, COLUMNS[:10], [("a", MOON), ("b", ("along", "a", (0, 1)))]):
            with self.assertRaises(NoReturn):
                Table(columns).returns()
        table = Table(COLUMNS)
        with self.assertRaises(NoReturn):
            table.returns()
        self.assertEqual(table.return_of("both"), 12)

    def test_what_is_told_is_a_number(self):
        table = Table(COLUMNS[:9])
        self.assertEqual({type(table.return_of(name)) for name in table.names()}, {int})
        self.assertIs(type(table.returns()), int)


class OfFarRows(unittest.TestCase):
    """Points 3, 4 and 15: rows far off."""

    def refused(self, table, *asked):
        for name, row in asked:
            with self.assertRaises(TooMany):
                table.value(name, row)

    def test_five_thousand_rows_whatever_the_column_is(self):
        # Along these a way is told just so far: none of them comes again behind up to 5,000 rows.
        columns = [("a", counted(5001)), ("b", ("along", "a", (3, 1))), ("c", ("along", "b", (0, 1))),
                   ("d", ("less", "c", "b")), ("e", ("along", "d", (0, 1)))]
        by_row = by_words(columns, 5000)
        for row in (5000, -5000, 4999, -4999):
            table = Table(columns)
            for name in "abcde":
                self.assertEqual(fraction_of(table.value(name, row)), by_row[name][row])
            self.assertEqual([fraction_of(worth) for worth in table.line(row)], [by_row[name][row] for name in "abcde"])
        table = Table(columns)
        with soon():
            for row in (5001, -5001, 5002, 10002, FAR, -FAR):
                self.refused(table, ("b", row), ("c", row), ("d", row), ("e", row))
                with self.assertRaises(TooMany):
                    table.line(row)
                self.assertEqual(table.value("a", row), (row % 5001, 1))

    def test_far_rows_along_a_return_of_just_five_thousand(self):
        table = Table([("a", counted(5000, 7)), ("b", ("along", "a", (1, 3)))])
        once = 2500 * 4999
        with soon():
            for row in (5001, -5001, 9999, 10000, -10000, FAR, -FAR, FAR - 1, 1 - FAR):
                rounds, left = divmod(row, 5000)
                gone = sum((7 + at) % 5000 for at in range(left))
                self.assertEqual(fraction_of(table.value("b", row)), Fraction(1, 3) + rounds * once + gone)
        self.assertIsNone(table.return_of("b"))

    def test_far_rows_along_a_longer_return_are_refused(self):
        for rows in (5001, 5002, 10000, FAR):
            table = Table([("a", counted(rows)), ("b", ("along", "a", (1, 3)))])
            with soon():
                self.refused(table, *[("b", row) for row in (5001, -5001, rows, FAR, -FAR)])
            self.assertEqual(fraction_of(table.value("b", 5000)), Fraction(1, 3) + 2500 * 4999)

    def test_far_rows_of_what_is_made(self):
        table = Table(COLUMNS)
        fresh = by_words(COLUMNS, 100)
        with soon():
            for row in (FAR, -FAR, FAR - 5, 7 - FAR, 5001, -5001):
                left = row % 12
                for name in ("moon", "one", "off", "sun", "ring", "both", "bent", "far", "way", "late"):
                    self.assertEqual(fraction_of(table.value(name, row)), fresh[name][left])
                for name, rows in (("more", 12), ("twice", 4)):
                    rounds, left = divmod(row, rows)
                    once = fresh[name][rows] - fresh[name][0]
                    self.assertEqual(fraction_of(table.value(name, row)), fresh[name][left] + rounds * once)
                self.assertEqual(table.line(row), [table.value(name, row) for name in table.names()])

    def test_far_rows_along_one_that_never_comes_again_are_refused(self):
        columns = [("a", MOON), ("b", ("along", "a", (0, 1))), ("c", ("along", "b", (0, 1)))]
        table = Table(columns)
        by_row = by_words(columns, 5000)
        for row in (5000, -5000):
            self.assertEqual(fraction_of(table.value("c", row)), by_row["c"][row])
        self.refused(table, ("c", 5001), ("c", -5001), ("c", FAR))
        self.assertEqual(table.value("b", -FAR), (-FAR, 1))
        self.assertIsNone(table.return_of("c"))

    def test_far_rows_along_a_sum_whose_return_is_long(self):
        columns = [("a", counted(1000)), ("b", counted(999)), ("c", ("sum", "a", "b")), ("d", ("along", "c", (0, 1))),
                   ("e", ("along", "a", (0, 1))), ("f", ("along", "b", (0, 1))), ("g", ("sum", "e", "f"))]
        table = Table(columns)
        self.refused(table, ("d", 5001), ("d", FAR))
        # The same worths, by two ways: each of these is along one that comes again soon.
        self.assertEqual(table.value("g", 5000), table.value("d", 5000))
        self.assertEqual(table.value("g", FAR), worth_of(FAR // 1000 * Fraction(499500) + Fraction(
            FAR // 999 * 498501 + sum(range(FAR % 999)))))

    def test_all_that_is_made_of_it_or_asks_it(self):
        columns = [("a", counted(5001)), ("b", ("along", "a", (0, 1)))]
        for made in (("sum", "a", "b"), ("sum", "b", "a"), ("less", "a", "b"), ("less", "b", "b"),
                     ("times", "b", (0, 1)), ("by", "b", LEVEL), ("along", "b", (0, 1))):
            table = Table([*columns, ("c", made), ("d", ("times", "c", (0, 1)))])
            self.refused(table, ("c", 5001), ("d", 5001), ("d", -FAR))
            for name in "bcd":
                with self.assertRaises(TooMany):
                    table.return_of(name)
            with self.assertRaises(TooMany):
                table.returns()
            self.assertEqual(table.return_of("a"), 5001)

    def test_what_plays_no_part_is_not_asked(self):
        table = Table([("a", counted(5001)), ("b", ("along", "a", (0, 1))), ("c", MOON), ("d", ("along", "c", (0, 1))),
                       ("e", ("sum", "c", "d"))])
        with soon():
            self.assertEqual((table.value("c", FAR), table.value("d", FAR), table.value("e", FAR)),
                             ((0, 1), (FAR, 1), (FAR, 1)))
        self.assertEqual(table.return_of("c"), 4)
        self.assertIsNone(table.return_of("e"))

    def test_returns_that_need_the_sum_of_too_many_rows(self):
        for rows in (5001, 5002, FAR):
            table = Table([*even(rows), ("way", ("along", "even", (0, 1)))])
            with soon():
                with self.assertRaises(TooMany):
                    table.return_of("way")
                with self.assertRaises(TooMany):
                    table.returns()
            self.assertEqual(table.return_of("even"), rows)

    def test_too_many_ahead_of_none_and_of_no_return(self):
        columns = [("a", MOON), ("never", ("along", "a", (0, 1))),
                   ("b", counted(5001)), ("much", ("along", "b", (0, 1)))]
        for made in (("sum", "never", "much"), ("sum", "much", "never"), ("less", "never", "much"),
                     ("less", "much", "never")):
            table = Table([*columns, ("c", made), ("d", ("times", "c", (1, 1))), ("e", ("along", "d", (0, 1)))])
            for name in "cde":
                with self.assertRaises(TooMany):
                    table.return_of(name)
            self.assertIsNone(table.return_of("never"))
        for order in ((0, 1, 2, 3), (2, 3, 0, 1)):
            with self.assertRaises(TooMany):
                Table([columns[at] for at in order]).returns()

    def test_what_never_comes_again_needs_no_sum(self):
        # much is along one that has no return at all: no sum could be asked for.
        table = Table([("a", MOON), ("never", ("along", "a", (0, 1))), ("b", counted(5001)),
                       ("both", ("sum", "never", "b")), ("much", ("along", "both", (0, 1)))])
        self.assertIsNone(table.return_of("both"))
        self.assertIsNone(table.return_of("much"))
        with self.assertRaises(NoReturn):
            table.returns()

    def test_what_is_refused_changes_nothing(self):
        table = Table([("a", counted(5001)), ("b", ("along", "a", (3, 1))), ("c", ("sum", "a", "b"))])
        before = [table.line(row) for row in range(-5, 6)]
        for row in (FAR, -FAR, 5001):
            with self.assertRaises(TooMany):
                table.line(row)
        with self.assertRaises(TooMany):
            table.returns()
        self.assertEqual([table.line(row) for row in range(-5, 6)], before)
        self.assertEqual(table.value("b", 5000), (3 + 2500 * 4999, 1))

    def test_columns_that_are_made_of_one_another_twice(self):
        columns = [("a", RING)]
        for one, other in zip("abcdefghijk", "bcdefghijkl"):
            columns.append((other, ("sum", one, one)))
        table = Table(columns)
        with soon():
            for row in (FAR, -FAR, *range(400)):
                self.assertEqual(fraction_of(table.value("l", row)), 2048 * fraction_of(RING.value(row)))
        self.assertEqual(table.return_of("l"), 4)

    def test_eleven_columns_each_along_another_one(self):
        columns = [("a", counted(2))]
        for one, other in zip("abcdefghijk", "bcdefghijkl"):
            columns.append((other, ("along", one, (0, 1))))
        table = Table(columns)
        with soon(60):
            self.assertEqual(table.value("b", 5000), (2500, 1))
            self.assertEqual(table.value("c", 5000), (2500 * 2499, 1))
            self.assertEqual(table.value("l", -5000)[1], 1)
            self.assertGreater(table.value("l", 5000)[0], 0)
            self.refused(table, ("c", 5001), ("l", 5001), ("l", FAR))
        small = by_words(columns, 60)
        self.assertEqual([fraction_of(table.value("l", row)) for row in range(-60, 61)],
                         [small["l"][row] for row in range(-60, 61)])

    def test_worths_at_the_bounds_of_numbers(self):
        line = Line(low=(1, FAR - 1), high=(FAR, FAR - 11), step=(FAR - 39, FAR), at=(1, FAR - 61))
        corners = [((-FAR, 1), (FAR, FAR - 1)), ((1, FAR), (-FAR, 1)), ((FAR, 1), (FAR - 1, FAR))]
        columns = [("a", line), ("b", ("times", "a", (-FAR, FAR - 1))), ("c", ("by", "b", corners)),
                   ("d", ("along", "c", (1, FAR))), ("e", ("less", "d", "a"))]
        table = Table(columns)
        for name, worths in by_words(columns, 10).items():
            self.assertEqual({row: fraction_of(table.value(name, row)) for row in worths}, worths)


if __name__ == "__main__":
    unittest.main()
