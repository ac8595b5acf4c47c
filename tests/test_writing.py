"""Points 40 to 42: numbers, worths, tables and tablets as texts; points 2 and 3 as they hold for these."""

import unittest
from itertools import product

from helpers import FAR, ODD_THINGS, counted, tablet_of
from tabletsky.errors import NoText
from tabletsky.lines import Line
from tabletsky.tables import Table
from tabletsky.tablets import Tablet
from tabletsky.words import whole_of, worth_of, worth_word
from tabletsky.writing import read_table, read_tablet, show_table, show_tablet
from tabletsky.zones import Zones

LINE = Line(low=(0, 1), high=(10, 1), step=(3, 1), at=(5, 2), up=False)
SUN = Zones(ring=(10, 1), borders=[(0, 1), (9, 2)], steps=[(2, 1), (7, 3)], at=(3, 1))
TABLE = Table([
    ("moon", LINE), ("sun", SUN), ("both", ("sum", "moon", "sun")), ("rest", ("less", "sun", "moon")),
    ("half", ("times", "moon", (-1, 2))), ("way", ("along", "sun", (-7, 3))),
    ("bent", ("by", "both", [((-1, 1), (1, 2)), ((0, 1), (-4, 1)), ((5, 3), (0, 1))])),
])
TEXT = """moon line 0 10 3 5/2 down
sun zones 10 0,9/2 2,7/3 3
both sum moon sun
rest less sun moon
half times moon -1/2
way along sun -7/3
bent by both -1:1/2,0:-4,5/3:0"""
TABLET = tablet_of("moon sun", [(1, 0), (2, 1)], "05 01,?9;30", "?0 00,5?;??")
NO_TEXTS = (None, True, False, 0, 1, b"", b"moon:1:0\n05", [], ["moon:1:0", "05"], (), {}, {"a"}, object(),
            TABLE, TABLET)


class OfNumbers(unittest.TestCase):
    """Point 40."""

    def test_whole_numbers(self):
        for number in (0, 1, -1, 9, 10, -10, 100, 1000000, FAR, -FAR, 10 ** 399, -10 ** 399 - 7):
            self.assertEqual(whole_of(f"{number}"), number)

    def test_what_is_none(self):
        for word in ("", "-", "+", "+1", "-0", "00", "01", "-01", "1 ", " 1", "1_0", "1.0", "1e3", "0x1", "--1", "1-",
                     "a", "-a", "1/1", "1/2", "1,2", "1\n", "\n", "?", "3-4", "-+1"):
            with self.subTest(word=word):
                self.assertIsNone(whole_of(word))

    def test_worths(self):
        for word, worth in (("0", (0, 1)), ("-7", (-7, 1)), ("1/2", (1, 2)), ("-1/2", (-1, 2)), ("12/7", (12, 7)),
                            (f"{FAR}/{FAR - 1}", (FAR, FAR - 1))):
            self.assertEqual((worth_of(word), worth_word(worth)), (worth, word))

    def test_what_is_no_worth(self):
        for word in ("", "/", "1/", "/2", "1/1", "0/1", "0/2", "2/4", "-2/4", "1/-2", "1/0", "1/02", "01/2", "-0/2",
                     "-0", "1/+2", "1/2/3", "1 /2", "1/ 2", "1//2", "1.5", "1,2", "1;30", "1/2 ", "a/2", "1/a", "3/1"):
            with self.subTest(word=word):
                self.assertIsNone(worth_of(word))


class OfTables(unittest.TestCase):
    """Point 41."""

    def test_each_kind_of_column(self):
        self.assertEqual(show_table(TABLE), TEXT)
        self.assertEqual(show_table(Table([("a", LINE)])), "a line 0 10 3 5/2 down")
        self.assertEqual(show_table(Table([("a", counted(7, at=3))])), "a zones 7 0 1 3")

    def test_at_and_the_way_at_row_nought(self):
        for low, high in (((0, 1), (10, 1)), ((1, 2), (7, 3))):
            for up in (True, False):
                shown = [show_table(Table([("a", Line(low=low, high=high, step=(1, 1), at=at, up=up))])).split(" ")[5:]
                         for at in (low, high)]
                self.assertEqual([words[1] for words in shown], ["up", "down"])
        for up, word in ((True, "up"), (False, "down")):
            line = Line(low=(0, 1), high=(10, 1), step=(3, 1), at=(5, 1), up=up)
            self.assertEqual(show_table(Table([("a", line)])), f"a line 0 10 3 5 {word}")

    def test_twelve_columns(self):
        names = "abcdefghijkl"
        table = Table([("a", LINE)] + [(name, ("sum", "a", "a")) for name in names[1:]])
        text = show_table(table)
        self.assertEqual(text.split("\n"), ["a line 0 10 3 5/2 down"] + [f"{name} sum a a" for name in names[1:]])
        self.assertEqual(read_table(text).names(), list(names))

    def test_what_is_read_is_shown_again(self):
        table = read_table(TEXT)
        self.assertIs(type(table), Table)
        self.assertEqual(show_table(table), TEXT)
        for row in (0, 1, -1, 17, 4000, -4000):
            self.assertEqual(table.line(row), TABLE.line(row))

    def test_all_lines_and_zones_come_back(self):
        for low, high, step, at, up in product(((0, 1), (1, 3)), ((5, 1), (7, 2)), ((1, 2), (3, 1)), ((1, 3), (3, 1)),
                                               (True, False)):
            table = Table([("a", Line(low=low, high=high, step=step, at=at, up=up))])
            read = read_table(show_table(table))
            self.assertEqual([read.value("a", row) for row in range(9)], [table.value("a", row) for row in range(9)])
            self.assertEqual(read.rule_of("a").rises(0), table.rule_of("a").rises(0))
        borders = [(at, 1) for at in range(12)]
        table = Table([("a", Zones(ring=(100, 7), borders=borders, steps=[(at, 9) for at in (1, 2, 4, 5, 7, 8) * 2],
                                   at=(99, 7)))])
        read = read_table(show_table(table))
        self.assertEqual([read.value("a", row) for row in range(99)], [table.value("a", row) for row in range(99)])

    def refused(self, text):
        with self.assertRaises(NoText) as caught:
            read_table(text)
        return caught.exception.at

    def test_what_is_no_text(self):
        for thing in NO_TEXTS:
            with self.subTest(thing=thing):
                self.assertIsNone(self.refused(thing))

    def test_a_blank_or_a_line_feed_more_or_less(self):
        rows = TEXT.split("\n")
        for at, row in enumerate(rows):
            for place in [place for place, sign in enumerate(row) if sign == " "]:
                for wrong in (row[:place] + " " + row[place:], row[:place] + row[place + 1:], row + " ", " " + row,
                              row[:place] + "\n" + row[place + 1:], row[:place] + "  " + row[place + 1:]):
                    self.assertEqual(self.refused("\n".join(rows[:at] + [wrong] + rows[at + 1:])), at)
            self.assertEqual(self.refused("\n".join(rows[:at] + [""] + rows[at:])), at)
        self.assertEqual(self.refused(TEXT + "\n"), 7)
        self.assertEqual(self.refused("\n" + TEXT), 0)
        self.assertEqual(self.refused(""), 0)
        self.assertEqual(self.refused("\n"), 0)

    def test_another_sign(self):
        rows = TEXT.split("\n")
        for at, row in enumerate(rows):
            for place in range(len(row)):
                for sign in "?A;_~":
                    wrong = row[:place] + sign + row[place + 1:]
                    self.assertEqual(self.refused("\n".join(rows[:at] + [wrong] + rows[at + 1:])), at)

    def test_rows_that_are_no_columns(self):
        for row in ("a", "a line", "a line 0 10 3 0", "a line 0 10 3 0 up up", "a line 0 10 3 0 UP", "a line 0 10 3 0 ",
                    "a line 0 10 3 0 True", "a line 10 0 3 0 up", "a line -1 10 3 0 up", "a line 0 10 0 0 up",
                    "a line 0 10 11 0 up", "a line 0 10 3 11 up", "a line 0 10 3 -1 up", "a line 00 10 3 0 up",
                    "a line 0/1 10 3 0 up", "a line 0 20/2 3 0 up", "a line 0 10 +3 0 up", "a line 0 10 3 -0 up",
                    "a line 0 10 3 0 down", "a line 0 10 3 10 up", "a lines 0 10 3 5 up", "A line 0 10 3 5 up",
                    "abcdefghi line 0 10 3 5 up", " line 0 10 3 5 up", "line 0 10 3 5 up", "a Line 0 10 3 5 up",
                    "a zones 10 0 1", "a zones 10 0 1 3 3", "a zones 0 0 1 0", "a zones 10 1 1 3", "a zones 10 0,4 1 3",
                    "a zones 10 0 1,2 3", "a zones 10 0,4,4 1,1,1 3", "a zones 10 0, 1,1 3", "a zones 10 ,0 1 3",
                    "a zones 10 0,,4 1,1,1 3", "a zones 10 0 0 3", "a zones 10 0 1 10", "a zones 10 0 1 -1",
                    "a zones 10 0;4 1,1 3", "a zones 10 0,8/2 1,1 3", "a sum a a", "a along a 0", "a less b c",
                    "a by a 0:0,1:1"):
            with self.subTest(row=row):
                self.assertEqual(self.refused(row), 0)

    def test_rows_that_are_no_columns_behind_others(self):
        for row in ("b sum a", "b sum a a a", "b sum a b", "b sum a c", "b sum a", "a sum a a", "b Sum a a",
                    "b plus a a", "b sum a 1", "b times a", "b times a a", "b times a 2/4", "b times a 1 1",
                    "b times 1 a", "b along a a", "b along b 0", "b along a 1,2", "b by a", "b by a 0:0",
                    "b by a 0:0,0:1", "b by a 1:0,0:1", "b by a 0:0,1", "b by a 0:0,1:1:1", "b by a 0,1",
                    "b by a 0:0,1:a", "b by a 0:0, 1:1", "b by a 0:0,1:1,", "b by a 0:0,1:2/2", "b by a 0:0;1:1",
                    "b by c 0:0,1:1", "b by a " + ",".join([f"{at}:{at}" for at in range(13)]), "b sum  a", "b sum a "):
            with self.subTest(row=row):
                self.assertEqual(self.refused(f"a line 0 10 3 5 up\n{row}\nc sum a a"), 1)
        twelve = "b by a " + ",".join([f"{at}:{at}" for at in range(12)])
        self.assertEqual(read_table(f"a line 0 10 3 5 up\n{twelve}").names(), ["a", "b"])

    def test_the_first_row_that_is_none(self):
        self.assertEqual(self.refused("a line 0 10 3 5 up\nb sum a c\nc sum a b\nno"), 1)
        self.assertEqual(self.refused("b sum a a\na line 0 10 3 5 up"), 0)
        self.assertEqual(self.refused("a line 0 10 3 5 up\nb sum a a\na sum b b"), 2)

    def test_a_row_too_many(self):
        rows = ["a line 0 10 3 5 up"] + [f"{name} sum a a" for name in "bcdefghijkl"]
        self.assertEqual(len(read_table("\n".join(rows)).names()), 12)
        for more in ("m sum a a", "no", "", "a sum a a", "m sum a a\nn sum a a"):
            self.assertEqual(self.refused("\n".join(rows) + "\n" + more), 12)
        self.assertEqual(self.refused("\n".join(rows[:5] + ["no"] + rows[5:])), 5)

    def test_how_it_is_handed_in(self):
        self.assertEqual(show_table(table=read_table(text=TEXT)), TEXT)


class OfTablets(unittest.TestCase):
    """Point 42."""

    TEXT = "moon:1:0 sun:2:1\n05 01,?9;30\n?0 00,5?;??"

    def test_a_tablet(self):
        self.assertEqual(show_tablet(TABLET), self.TEXT)
        self.assertEqual(read_tablet(self.TEXT), TABLET)
        self.assertIs(type(read_tablet(self.TEXT)), Tablet)
        self.assertEqual(show_tablet(tablet_of("a", [(1, 0)], "??")), "a:1:0\n??")

    def test_each_form(self):
        for wholes, parts in product(range(1, 9), range(9)):
            cell = ",".join(["5?"] * wholes) + (";" + ",".join(["?9"] * parts) if parts else "")
            tablet = Tablet(names=["a"], forms=[(wholes, parts)], rows=[[cell]])
            text = f"a:{wholes}:{parts}\n{cell}"
            self.assertEqual((show_tablet(tablet), read_tablet(text)), (text, tablet))
            for wrong in (f"a:{wholes}:{parts + 1}\n{cell}", f"a:{wholes + 1}:{parts}\n{cell}",
                          text + ",00", text + ";00"):
                with self.assertRaises(NoText) as caught:
                    read_tablet(wrong)
                # A ninth whole or part is no form.
                self.assertEqual(caught.exception.at, 0 if ":9" in wrong else 1)

    def test_twelve_columns_and_sixty_rows(self):
        names = list("abcdefghijkl")
        tablet = Tablet(names=names, forms=[(1, 0)] * 12, rows=[[f"{row:02}"] * 12 for row in range(60)])
        text = show_tablet(tablet)
        self.assertEqual((len(text.split("\n")), read_tablet(text)), (61, tablet))

    def refused(self, text):
        with self.assertRaises(NoText) as caught:
            read_tablet(text)
        return caught.exception.at

    def test_what_is_no_text(self):
        for thing in NO_TEXTS:
            with self.subTest(thing=thing):
                self.assertIsNone(self.refused(thing))

    def test_a_first_row_that_is_not_so(self):
        for head in ("", " ", "moon", "moon:1", "moon:1:0:0", "moon:1:0 ", " moon:1:0", "moon:1:0  sun:2:1", "moon:0:0",
                     "moon:9:0", "moon:1:9", "moon:1:-1", "moon:-1:0", "moon:01:0", "moon:1:00", "moon:1:+0",
                     "moon:1:-0", "moon:a:0", "moon::0", "moon:1:", "Moon:1:0", ":1:0", "abcdefghi:1:0",
                     "moon:1:0 moon:1:0", "moon;1;0", "moon :1:0", "moon:1/1:0",
                     " ".join([f"{name}:1:0" for name in "abcdefghijklm"])):
            with self.subTest(head=head):
                for rows in ("\n05", "", "\n", "\nno", "\n05" * 61):
                    self.assertEqual(self.refused(head + rows), 0)

    def test_rows_that_have_no_such_cells(self):
        for row in ("", " ", "05", "05 ", "05 01,09;30 ", " 05 01,09;30", "05  01,09;30", "05 01,09;30 05",
                    "01,09;30 05", "05 01,09", "05 01;09,30", "05 01,09;3", "05 01,09;300", "65 01,09;30",
                    "05 01,69;30", "0x 01,09;30", "05 01,09;30\n", "005 01,09;30", "05,01,09;30", "!! ??,??;??"):
            with self.subTest(row=row):
                self.assertEqual(self.refused(f"moon:1:0 sun:2:1\n{row}\n05 01,09;30"), 2 if "\n" in row else 1)
                self.assertEqual(self.refused(f"moon:1:0 sun:2:1\n05 01,09;30\n{row}"), 3 if "\n" in row else 2)

    def test_no_rows(self):
        self.assertEqual(self.refused("moon:1:0"), 1)
        self.assertEqual(self.refused("moon:1:0\n"), 1)
        self.assertEqual(self.refused("moon:1:0\n05\n"), 2)

    def test_a_sixty_first_row(self):
        for more in ("05", "no", "", "05\n05"):
            self.assertEqual(self.refused("moon:1:0" + "\n05" * 60 + "\n" + more), 61)
        self.assertEqual(self.refused("moon:1:0" + "\n05" * 59 + "\nno\n05"), 60)
        self.assertEqual(self.refused("moon:1:0" + "\n05" * 30 + "\nno" + "\n05" * 30), 31)
        self.assertEqual(len(read_tablet("moon:1:0" + "\n05" * 60)), 60)

    def test_how_it_is_handed_in(self):
        self.assertEqual(show_tablet(tablet=read_tablet(text=self.TEXT)), self.TEXT)

    def test_odd_things(self):
        for thing in ODD_THINGS:
            if not isinstance(thing, str):
                self.assertIsNone(self.refused(thing))


if __name__ == "__main__":
    unittest.main()
