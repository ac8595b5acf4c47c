"""The interface of the whole program, and points 2, 3 and 4 as they hold over all of it."""

import importlib
import inspect
import unittest

from helpers import FAR, counted, soon, tablet_of
from tabletsky.darkened import Dark, near_returns
from tabletsky.desk import Desk
from tabletsky.errors import SkyError
from tabletsky.found import lines_with, parts_at, tables_part
from tabletsky.lines import Line
from tabletsky.mends import guard, least, mended, wrong
from tabletsky.months import Days, even_round
from tabletsky.pieces import joined, laid, shifts, together, torn
from tabletsky.tables import Table
from tabletsky.tablets import Tablet, bars, broken, cut_out, filled, stands, sure
from tabletsky.writing import read_table, read_tablet, show_table, show_tablet

# By modules, what the interface lists, as it lists it.
FUNCTIONS = {
    "sixties": ["worth(top, bottom=1)", "plus(one, other)", "minus(one, other)", "times(one, other)",
                "over(one, other)", "is_worth(thing)", "is_less(one, other)", "show(thing, *, wholes=1, parts=0)",
                "read(text)"],
    "tablets": ["bars(tablet, table, *, row)", "stands(tablet, table, *, most=5000)", "filled(tablet, table, *, row)",
                "sure(tablet, table, *, most=5000)", "cut_out(table, *, names, forms, first, many=1)",
                "broken(tablet, *, places)"],
    "mends": ["wrong(tablet, table, *, row)", "least(tablet, table, *, most=5000)", "mended(tablet, table, *, row)",
              "guard(tablet, table, *, row, most=5000)"],
    "found": ["lines_with(worths, *, lows, highs, steps, first=0)",
              "zones_with(worths, *, ring, borders, steps, first=0)", "parts_at(one, other, *, first=0)",
              "settled_by(rules, *, first=0)", "tables_part(one, other, *, first=0)"],
    "pieces": ["torn(tablet, *, first, many)", "joined(one, other, *, shift)", "joined_all(pieces)",
               "together(one, other, table, *, shift, most=5000)",
               "shifts(one, other, table, *, farthest=59, most=5000)",
               "laid(pieces, table, *, farthest=59, most=5000)"],
    "months": ["even_round(*, years, many, month=12, shift=0)", "strays(cycle, *, length)"],
    "darkened": ["near_returns(line, *, most)"],
    "writing": ["show_table(table)", "read_table(text)", "show_tablet(tablet)", "read_tablet(text)"],
}
CLASSES = {
    "lines": {"Line(*, low, high, step, at, up=True)": [
        "value(row)", "rises(row)", "returns()", "rows_of(thing)"]},
    "zones": {"Zones(*, ring, borders, steps, at)": [
        "value(row)", "far(row)", "zone_of(thing)", "returns()", "rows_of(thing)"]},
    "tables": {"Table(columns)": [
        "names()", "rule_of(name)", "value(name, row)", "line(row)", "return_of(name)", "returns()"]},
    "tablets": {"Tablet(*, names, forms, rows)": [
        "names()", "forms()", "rows()", "known()", "lost()", "__len__()", "__eq__(other)"]},
    "months": {
        "Round(*, years, doubled)": [
            "months_of(year)", "in_all()", "begins(year)", "number_of(year, month, *, second=False)",
            "month_at(number)"],
        "Days(cycle, table, *, name, dusk=(3, 4))": [
            "first_day(number)", "days_in(number)", "day_of(year, month, day, *, second=False)", "lengths_of(year)",
            "date_of(day)"]},
    "darkened": {"Dark(line, *, low, high, up=None)": [
        "is_dark(row)", "next_dark(row)", "last_dark(row)", "how_many(first, last)", "nth(number)", "number_of(row)",
        "gaps()"]},
    "desk": {"Desk()": [
        "say(line)", "held(name)", "put(name, thing)", "back(*, many=1)", "forth(*, many=1)", "history()",
        "taken_back()", "within(work)", "going()"]},
}


def signature_of(function, bound=False):
    """How a function is called, without the object that it is called of."""
    signature = inspect.signature(function)
    told = list(signature.parameters.values())[1 if bound else 0:]
    return str(signature.replace(parameters=told))


class OfTheInterface(unittest.TestCase):
    def test_functions(self):
        for module, told in FUNCTIONS.items():
            for call in told:
                name = call.split("(")[0]
                with self.subTest(module=module, call=call):
                    function = getattr(importlib.import_module(f"tabletsky.{module}"), name)
                    self.assertEqual(name + signature_of(function), call)
                    self.assertEqual(function.__module__, f"tabletsky.{module}")

    def test_classes_and_their_methods(self):
        for module, classes in CLASSES.items():
            for call, methods in classes.items():
                name = call.split("(")[0]
                made = getattr(importlib.import_module(f"tabletsky.{module}"), name)
                self.assertEqual(made.__module__, f"tabletsky.{module}")
                self.assertEqual(name + signature_of(made.__init__, bound=True), call)
                for method in methods:
                    with self.subTest(module=module, method=method):
                        self.assertIn(method.split("(")[0], vars(made))
                        function = vars(made)[method.split("(")[0]]
                        self.assertEqual(method.split("(")[0] + signature_of(function, bound=True), method)


# The moon comes again behind 20 rows, the longer line behind 10.
MOON = Line(low=(0, 1), high=(10, 1), step=(3, 1), at=(4, 1))
LONGER = Line(low=(117, 4), high=(119, 4), step=(1, 10), at=(117, 4))
TABLE = Table([("moon", MOON), ("long", LONGER), ("new", ("along", "long", (1, 2))), ("day", counted(50)),
               ("rest", ("less", "day", "moon"))])


class OfOneThingToldAlike(unittest.TestCase):
    """Point 4: one thing told by several functions is told alike, at far rows, too."""

    def test_rows_of_a_worth(self):
        for worth in range(11):
            cell = f"{worth:02}"
            tablet = tablet_of("moon", [(1, 0)], cell)
            rows = MOON.rows_of((worth, 1))
            self.assertEqual(stands(tablet, TABLE), rows)
            self.assertEqual(together(tablet, tablet, TABLE, shift=0), rows)
            if rows:
                self.assertEqual(least(tablet, TABLE), (0, rows))
            dark = Dark(MOON, low=(worth, 1), high=(worth, 1))
            self.assertEqual([dark.nth(number) for number in range(dark.how_many(0, 19))], rows)
            for far in (FAR, -FAR):
                self.assertEqual([row for row in range(far, far + 20) if bars(tablet, TABLE, row=row) is None],
                                 [far + row for row in rows])
                self.assertEqual([row - far for row in range(far, far + 20) if dark.is_dark(row)], rows)
                self.assertEqual([row for row in range(far, far + 20) if wrong(tablet, TABLE, row=row) == 0],
                                 [far + row for row in rows])

    def test_worths_of_a_row(self):
        desk = Desk()
        desk.put("sky", Table([("moon", MOON), ("day", counted(50))]))
        with soon():
            for row in (0, -1, 17, FAR, -FAR, FAR - 7):
                worths = [MOON.value(row), counted(50).value(row)]
                table = desk.held("sky")
                self.assertEqual(table.line(row), worths)
                self.assertEqual([table.value(name, row) for name in table.names()], worths)
                self.assertEqual(desk.say(f"row sky {row}"), f"{worths[0][0]} {worths[1][0]}")
                cells = [f"{worth[0]:02}" for worth in worths]
                tablet = cut_out(table, names=["moon", "day"], forms=[(1, 0)] * 2, first=row)
                self.assertEqual(tablet.rows(), [cells])
                blank = broken(tablet, places=[(0, name, at) for name in ("moon", "day") for at in (0, 1)])
                self.assertEqual(filled(blank, table, row=row), tablet)
                self.assertEqual(mended(tablet_of("moon day", [(1, 0)] * 2, "59 11"), table, row=row)[0], tablet)

    def test_found_lines_are_rules_that_never_part(self):
        seen = [MOON.value(row) for row in range(FAR, FAR + 12)]
        told = lines_with(seen, lows=[(0, 1)], highs=[(10, 1)], steps=[(3, 1)], first=FAR)
        self.assertEqual(len(told), 1)
        low, high, step, at, up = told[0]
        line = Line(low=low, high=high, step=step, at=at, up=up)
        self.assertIsNone(parts_at(line, MOON))
        self.assertIsNone(tables_part(Table([("moon", line)]), TABLE, first=-FAR))
        self.assertEqual(show_table(Table([("moon", line)])), show_table(Table([("moon", MOON)])))

    def test_near_returns_and_the_return(self):
        for line in (MOON, LONGER):
            rows, _ = line.returns()
            self.assertEqual(near_returns(line, most=FAR)[-1], (rows, (0, 1)))
            dark = Dark(line, low=line.value(FAR), high=line.value(FAR), up=line.rises(FAR))
            self.assertEqual(dark.gaps(), [(rows, 1)])

    def test_days_and_the_column_along(self):
        days = Days(even_round(years=19, many=7), TABLE, name="new")
        for number in (0, 5, -7, FAR, -FAR):
            top, bottom = TABLE.value("new", number)
            first = days.first_day(number)
            self.assertTrue((first - 1) * 4 * bottom + 3 * bottom < 4 * top <= first * 4 * bottom + 3 * bottom)

    def test_pieces_and_the_whole(self):
        whole = cut_out(TABLE, names=["moon", "day"], forms=[(1, 0)] * 2, first=-FAR, many=9)
        one, other = torn(whole, first=0, many=4), torn(whole, first=6, many=3)
        self.assertIn(6, shifts(one, other, TABLE))
        self.assertIn([6], laid([one, other], TABLE))
        both = joined(one, other, shift=6)
        self.assertEqual(stands(both, TABLE), together(one, other, TABLE, shift=6))
        self.assertEqual(sure(both, TABLE), whole)
        self.assertEqual(guard(both, TABLE, row=-FAR), guard(both, TABLE, row=0))

    def test_what_was_told_may_be_handed_in_again(self):
        table = read_table(show_table(TABLE))
        self.assertEqual(table.line(FAR), TABLE.line(FAR))
        rows = stands(tablet_of("moon", [(1, 0)], "07"), table)
        tablet = cut_out(table, names=["moon"], forms=[(1, 0)], first=rows[0])
        self.assertEqual(read_tablet(show_tablet(tablet)), tablet)
        again = Tablet(names=tablet.names(), forms=tablet.forms(), rows=tablet.rows())
        self.assertEqual(again, tablet)
        dark = Dark(table.rule_of("moon"), low=table.value("moon", 5), high=(10, 1))
        row = dark.nth(FAR)
        self.assertEqual(dark.number_of(row), FAR)
        self.assertEqual(dark.next_dark(row), row)
        days = Days(even_round(years=19, many=7), table, name="new")
        date = days.date_of(days.first_day(FAR))
        self.assertEqual(days.day_of(date[0], date[1], date[3], second=date[2]), days.first_day(FAR))


class OfRefusals(unittest.TestCase):
    """Point 2: a refusal changes nothing, and all stand right under one base."""

    def test_what_is_refused_changes_nothing(self):
        piece = tablet_of("moon day", [(1, 0)] * 2, "0? 1?")
        asked = [
            lambda: filled(piece, TABLE, row=0), lambda: sure(tablet_of("moon", [(1, 0)], "59"), TABLE),
            lambda: broken(piece, places=[(0, "moon", 0), (0, "moon", 2)]), lambda: TABLE.value("none", 5),
            lambda: TABLE.returns(), lambda: stands(piece, TABLE, most=5), lambda: torn(piece, first=0, many=2),
            lambda: joined(piece, tablet_of("moon day", [(1, 0)] * 2, "1? 1?"), shift=0),
            lambda: Days(even_round(years=1, many=0), TABLE, name="day"),
        ]
        before = (piece.rows(), show_table(TABLE), TABLE.line(0), TABLE.line(-FAR))
        for ask in asked:
            for _ in range(2):
                with self.assertRaises(SkyError) as caught:
                    ask()
                self.assertEqual(type(caught.exception).__bases__, (SkyError,))
        self.assertEqual((piece.rows(), show_table(TABLE), TABLE.line(0), TABLE.line(-FAR)), before)


if __name__ == "__main__":
    unittest.main()
