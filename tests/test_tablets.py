"""Points 16 to 20: broken tablets; points 2, 3 and 4 as they hold for these."""

import unittest
from fractions import Fraction
from itertools import product

from helpers import FAR, ODD_THINGS, counted, fraction_of, shown, soon, tablet_of, worth_of
from tabletsky.errors import Barred, NoColumn, NoReturn, NoTablet, Nowhere, TooMany
from tabletsky.lines import Line
from tabletsky.tables import Table
from tabletsky.tablets import Tablet, bars, broken, cut_out, filled, stands, sure
from tabletsky.zones import Zones

SO = {"names": ["moon", "sun"], "forms": [(1, 0), (2, 1)], "rows": [["05", "01,?9;30"], ["?0", "00,5?;??"]]}
# The moon comes again behind 20 rows, the sun behind 12.
MOON = Line(low=(0, 1), high=(10, 1), step=(3, 1), at=(0, 1))
SUN = Zones(ring=(90, 1), borders=[(0, 1), (30, 1)], steps=[(15, 2), (15, 2)], at=(0, 1))
COLUMNS = [
    ("moon", MOON), ("sun", SUN), ("both", ("sum", "moon", "sun")), ("less", ("less", "moon", "sun")),
    ("way", ("along", "moon", (1, 1))), ("half", ("times", "moon", (1, 2))),
]
TABLE = Table(COLUMNS)


def moons(*cells):
    return tablet_of("moon", [(1, 0)], *cells)


def barring(tablet, table, row):
    """What bars by the words of point 17."""
    for number, cells in enumerate(tablet.rows()):
        for name, form, cell in zip(tablet.names(), tablet.forms(), cells):
            text = shown(table.value(name, row + number), form)
            if text is None or any(mine not in ("?", other) for mine, other in zip(cell, text)):
                return (number, name)
    return None


def alike(texts):
    """The signs that all texts have in common, the others lost."""
    return "".join(signs[0] if len(set(signs)) == 1 else "?" for signs in zip(*texts))


class OfTablets(unittest.TestCase):
    """Point 16: what a tablet tells."""

    def test_names_forms_and_rows(self):
        tablet = Tablet(**SO)
        self.assertEqual(tablet.names(), ["moon", "sun"])
        self.assertEqual(tablet.forms(), [(1, 0), (2, 1)])
        self.assertEqual(tablet.rows(), [["05", "01,?9;30"], ["?0", "00,5?;??"]])
        for told in (tablet.names(), tablet.forms(), tablet.rows(), tablet.rows()[0]):
            self.assertIs(type(told), list)

    def test_known_and_lost(self):
        tablet = Tablet(**SO)
        self.assertEqual((tablet.known(), tablet.lost(), len(tablet)), (11, 5, 2))
        for rows, told in (([["00", "00,00;00"]], (8, 0, 1)), ([["??", "??,??;??"]], (0, 8, 1)),
                           ([["?5", "5?,59;?0"]] * 60, (300, 180, 60))):
            tablet = Tablet(**{**SO, "rows": rows})
            self.assertEqual((tablet.known(), tablet.lost(), len(tablet)), told)
            self.assertEqual([type(tablet.known()), type(tablet.lost())], [int, int])

    def test_one_column_and_twelve(self):
        for many in (1, 12):
            names = list("abcdefghijklmnop"[:many])
            tablet = Tablet(names=names, forms=[(1, 0)] * many, rows=[["0?"] * many])
            self.assertEqual((tablet.names(), tablet.known()), (names, many))

    def test_all_forms(self):
        for wholes, parts in product(range(1, 9), range(9)):
            cell = ",".join(["59"] * wholes) + (";" + ",".join(["0?"] * parts) if parts else "")
            tablet = Tablet(names=["a"], forms=[(wholes, parts)], rows=[[cell]])
            self.assertEqual((tablet.known(), tablet.lost()), (2 * wholes + parts, parts))
            for wrong in (cell + ",00", cell + ";00", cell[:-3], cell[:-1], cell + "0", "," + cell, cell + ","):
                with self.assertRaises(NoTablet) as caught:
                    Tablet(names=["a"], forms=[(wholes, parts)], rows=[[wrong]])
                self.assertEqual(caught.exception.why, (0, 0))

    def test_all_signs(self):
        for one, other in product("0123456789?", repeat=2):
            if one in "6789":
                with self.assertRaises(NoTablet) as caught:
                    moons("00", one + other)
                self.assertEqual(caught.exception.why, (1, 0))
            else:
                self.assertEqual(moons("00", one + other).rows(), [["00"], [one + other]])

    def test_one_row_and_sixty(self):
        for many in (1, 60):
            rows = [[f"{at:02}"] for at in range(many)]
            tablet = Tablet(names=["a"], forms=[(1, 0)], rows=rows)
            self.assertEqual((len(tablet), tablet.rows()), (many, rows))

    def test_lists_that_were_handed_in_or_told(self):
        names, forms, rows = ["moon", "sun"], [(1, 0), (2, 1)], [["05", "01,?9;30"], ["?0", "00,5?;??"]]
        tablet, same = Tablet(names=names, forms=forms, rows=rows), Tablet(**SO)
        names[0], forms[0], rows[0][0] = "new", (8, 8), "new"
        rows[1].append("new")
        rows.append(["new"])
        self.assertEqual((tablet.names(), tablet.forms(), tablet.rows()), (SO["names"], SO["forms"], SO["rows"]))
        for told in (tablet.names(), tablet.forms(), tablet.rows(), tablet.rows()[0], tablet.rows()[1]):
            told.clear()
        told = tablet.rows()
        told[0][0] = "59"
        told[1].pop()
        self.assertEqual((tablet.names(), tablet.forms(), tablet.rows()), (SO["names"], SO["forms"], SO["rows"]))
        self.assertEqual((tablet.known(), tablet.lost(), len(tablet)), (11, 5, 2))
        self.assertEqual(tablet, same)

    def test_rows_that_are_one_and_the_same_list(self):
        row = ["05"]
        tablet = Tablet(names=["moon"], forms=[(1, 0)], rows=[row, row])
        told = tablet.rows()
        told[0][0] = "00"
        self.assertEqual((told[1], tablet.rows()), (["05"], [["05"], ["05"]]))

    def test_equal_tablets(self):
        one, other = Tablet(**SO), Tablet(**SO)
        self.assertIs(one == other, True)
        self.assertIs(one != other, False)
        self.assertIs(one == one, True)
        self.assertEqual(Tablet(names=one.names(), forms=one.forms(), rows=one.rows()), one)

    def test_tablets_that_are_unlike_in_one_thing(self):
        one = Tablet(**SO)
        for told in (
            {"names": ["moon", "sky"]}, {"names": ["sun", "moon"]},
            {"forms": [(1, 0), (1, 2)], "rows": [["05", "01;?9,30"], ["?0", "00;5?,??"]]},
            {"rows": SO["rows"][:1]}, {"rows": SO["rows"] + [["??", "??,??;??"]]}, {"rows": SO["rows"][::-1]},
            {"rows": [["05", "01,?9;30"], ["?0", "00,5?;?0"]]}, {"rows": [["0?", "01,?9;30"], ["?0", "00,5?;??"]]},
            {"rows": [["05", "01,29;30"], ["?0", "00,5?;??"]]},
        ):
            with self.subTest(told=told):
                other = Tablet(**{**SO, **told})
                self.assertIs(one == other, False)
                self.assertIs(other == one, False)
                self.assertIs(one != other, True)
        self.assertNotEqual(moons("00"), tablet_of("moon", [(2, 0)], "00,00"))

    def test_what_is_no_tablet_is_equal_to_none(self):
        class Same:
            def __init__(self, tablet):
                self.__dict__.update(tablet.__dict__)

            def __len__(self):
                return 2

        tablet = Tablet(**SO)
        for thing in (*ODD_THINGS, SO, SO["rows"], TABLE, MOON, Same(tablet), Tablet, 2):
            self.assertIs(tablet == thing, False)
            self.assertIs(tablet != thing, True)

    def test_how_it_is_handed_in(self):
        with self.assertRaises(TypeError):
            Tablet(["moon"], [(1, 0)], [["00"]])
        self.assertEqual(len(Tablet(rows=[["00"]], forms=[(1, 0)], names=["moon"])), 1)


class OfRefusedTablets(unittest.TestCase):
    """Point 16: what is none."""

    def why_of(self, **told):
        with self.assertRaises(NoTablet) as caught:
            Tablet(**{**SO, **told})
        return caught.exception.why

    def test_names_that_are_no_such_list(self):
        for names in (*ODD_THINGS, [], ("moon", "sun"), "moon", {"moon": 1, "sun": 2}, ["moon", "moon"],
                      list("abcdefghijklm"), [None, "sun"]):
            with self.subTest(names=names):
                self.assertEqual(self.why_of(names=names), "names")
        many = list("abcdefghijklm")
        self.assertEqual(self.why_of(names=many, forms=[(1, 0)] * 13, rows=[["00"] * 13]), "names")
        self.assertEqual(self.why_of(names=[], forms=[], rows=[[]]), "names")

    def test_what_is_no_name(self):
        for name in (*ODD_THINGS, "moon", "abcdefghi", "Sun", "suN", "s1", "s n", " sun", "sun ", "s_n",
                     "s,n", "sun\n", "?", ["sun"]):
            with self.subTest(name=name):
                self.assertEqual(self.why_of(names=["moon", name]), "names")
                self.assertEqual(self.why_of(names=[name, "moon"]), "names")
        Tablet(**{**SO, "names": ["a", "abcdefgh"]})

    def test_forms_that_are_no_such_list(self):
        for forms in (*ODD_THINGS, [], ((1, 0), (2, 1)), [(1, 0)], [(1, 0), (2, 1), (1, 0)], (1, 0)):
            with self.subTest(forms=forms):
                self.assertEqual(self.why_of(forms=forms), "forms")

    def test_what_is_no_form(self):
        for form in (*ODD_THINGS, (0, 0), (0, 1), (-1, 1), (9, 0), (1, -1), (1, 9), (FAR, FAR), [2, 1], (2,),
                     (2, 1, 0), (True, 1), (2, True), (2, False), (2, None), (None, 1), ("2", "1"), ((2, 1), 1)):
            with self.subTest(form=form):
                self.assertEqual(self.why_of(forms=[(1, 0), form]), "forms")
                self.assertEqual(self.why_of(forms=[form, (2, 1)]), "forms")

    def test_rows_that_are_no_such_list(self):
        for rows in (*ODD_THINGS, [], tuple(SO["rows"]), "00", {0: ["00"]}, SO["rows"][:1] * 61, [None] * 61,
                     SO["rows"] * 50):
            with self.subTest(rows=rows):
                self.assertEqual(self.why_of(rows=rows), "rows")

    def test_a_row_that_is_no_list_of_so_many(self):
        first, second = SO["rows"]
        for row in (*ODD_THINGS, [], tuple(first), first[:1], first + ["00"], "05", {"05": "01,?9;30"},
                    [None], [None] * 3):
            with self.subTest(row=row):
                self.assertEqual(self.why_of(rows=[row]), (0, None))
                self.assertEqual(self.why_of(rows=[first, row, None, ["66", "66"]]), (1, None))
                self.assertEqual(self.why_of(rows=[first] * 59 + [row]), (59, None))

    def test_a_cell_that_is_not_so(self):
        first, second = SO["rows"]
        for cell in (*ODD_THINGS, "01,02", "01;02", "01,02,03", "01;02,03", "01,02;03,04", "00,01,02;03",
                     "01,02;3", "1,02;03", "01,02;", "01,02;0", "01, 2;03", "01,02;03 ", " 1,02;03", "01.02;03",
                     "61,02;03", "01,62;03", "01,02;63", "7?,??;??", "??,8?;??", "??,??;9?", "01,02;0a", "01,02;-1",
                     "01,02;+1", "0!,02;03", "0/,02;03", "0:,02;03", "01,02?03", "01?02;03", "01;02;03", "01,02,03",
                     "01,02;0\n", ["01,02;03"], ("01,02;03",), "05", "", "??"):
            with self.subTest(cell=cell):
                self.assertEqual(self.why_of(rows=[["05", cell]]), (0, 1))
                self.assertEqual(self.why_of(rows=[first, ["05", cell], None]), (1, 1))
                self.assertEqual(self.why_of(rows=[first, ["05", cell], [cell, cell]]), (1, 1))
        for cell in ("00,00;00", "59,59;59", "??,??;??", "?0,?9;?5", "5?,0?;3?"):
            self.assertEqual(Tablet(**{**SO, "rows": [["05", cell]]}).rows(), [["05", cell]])

    def test_the_first_cell_is_told(self):
        first, second = SO["rows"]
        for wrong in ([first, ["60", "60,60;60"], ["60", "00,00;00"]], [first, ["6", None], None]):
            self.assertEqual(self.why_of(rows=wrong), (1, 0))
        self.assertEqual(self.why_of(rows=[first, second, ["00", "60,00;00"], ["60", "00,00;00"]]), (2, 1))
        # In a row of another length no cell is looked at.
        self.assertEqual(self.why_of(rows=[first, [None, None, None], ["60"]]), (1, None))

    def test_what_comes_first(self):
        self.assertEqual(self.why_of(names=None, forms=None, rows=None), "names")
        self.assertEqual(self.why_of(forms=None, rows=None), "forms")
        self.assertEqual(self.why_of(names=[None], rows=[]), "names")
        self.assertEqual(self.why_of(forms=[(0, 0), (2, 1)], rows=[["66", None]]), "forms")
        self.assertEqual(self.why_of(rows=[["66", None]] * 61), "rows")

    def test_what_is_told_is_a_tuple_of_numbers(self):
        why = self.why_of(rows=[["60", "00,00;00"]])
        self.assertIs(type(why), tuple)
        self.assertEqual([type(part) for part in why], [int, int])


class OfBars(unittest.TestCase):
    """Point 17: where a tablet stands, and what bars it."""

    def test_it_stands_with_just_its_figures(self):
        # From row 0 on the moon is 0, 3, 6, 9, 8, 5, 2, 1, 4.
        for tablet in (moons("00", "03", "06"), moons("??", "0?", "?6"), moons("??"), moons("?0", "??", "??", "09")):
            self.assertIsNone(bars(tablet, TABLE, row=0))
        self.assertIsNone(bars(moons("08", "05"), TABLE, row=4))
        self.assertIsNone(bars(moons("0?", "?8"), TABLE, row=-17))

    def test_another_figure(self):
        for tablet, told in ((moons("01", "03"), (0, "moon")), (moons("00", "04"), (1, "moon")),
                             (moons("00", "1?"), (1, "moon")), (moons("??", "?4"), (1, "moon")),
                             (moons("??", "??", "?6", "0?", "?9"), (4, "moon"))):
            self.assertEqual(bars(tablet, TABLE, row=0), told)

    def test_the_first_of_several_places(self):
        tablet = tablet_of("sun moon", [(2, 1), (1, 0)], "??,??;?? 00", "00,07;30 04", "00,15;01 07")
        self.assertEqual(bars(tablet, TABLE, row=0), (1, "moon"))
        tablet = tablet_of("sun moon", [(2, 1), (1, 0)], "??,??;?? 00", "00,07;31 04", "00,15;01 07")
        self.assertEqual(bars(tablet, TABLE, row=0), (1, "sun"))
        tablet = tablet_of("moon sun", [(1, 0), (2, 1)], "00 ??,??;??", "04 00,07;31", "07 00,15;01")
        self.assertEqual(bars(tablet, TABLE, row=0), (1, "moon"))
        tablet = tablet_of("moon sun", [(1, 0), (2, 1)], "00 ??,??;??", "03 00,07;30", "07 00,15;01")
        self.assertEqual(bars(tablet, TABLE, row=0), (2, "moon"))

    def test_a_worth_below_nought(self):
        # Moon less sun is 0, then 3 less 7 and a half.
        tablet = tablet_of("less", [(8, 8)], *[",".join(["??"] * 8) + ";" + ",".join(["??"] * 8)] * 2)
        self.assertEqual(bars(tablet, TABLE, row=0), (1, "less"))
        self.assertEqual(bars(tablet, TABLE, row=1), (0, "less"))

    def test_a_worth_that_is_too_great(self):
        # The sun comes to 60 in row 8.
        for row, told in ((6, (2, "sun")), (7, (1, "sun")), (8, (0, "sun")), (5, None)):
            self.assertEqual(bars(tablet_of("sun", [(1, 1)], "??;??", "??;??", "??;??"), TABLE, row=row), told)
        self.assertIsNone(bars(tablet_of("sun", [(2, 1)], "01,00;00"), TABLE, row=8))

    def test_a_worth_that_is_not_whole_in_the_last_part(self):
        self.assertEqual(bars(tablet_of("half", [(2, 0)], "??,??", "??,??"), TABLE, row=0), (1, "half"))
        self.assertIsNone(bars(tablet_of("half", [(2, 1)], "??,??;??", "00,01;30"), TABLE, row=0))
        table = Table([("third", Line(low=(0, 1), high=(1, 7), step=(1, 7), at=(0, 1)))])
        tablet = tablet_of("third", [(1, 8)], *["??;" + ",".join(["??"] * 8)] * 2)
        self.assertEqual(bars(tablet, table, row=0), (1, "third"))

    def test_rows_below_nought(self):
        self.assertEqual([TABLE.value("moon", -row)[0] for row in range(4)], [0, 3, 6, 9])
        self.assertIsNone(bars(moons("09", "06", "03", "00", "03"), TABLE, row=-3))
        self.assertEqual(bars(moons("09", "06", "03", "00", "04"), TABLE, row=-3), (4, "moon"))
        self.assertEqual(bars(moons("09"), TABLE, row=-2), (0, "moon"))

    def test_by_the_words_of_the_document(self):
        tablets = [moons("0?", "?3"), tablet_of("both moon", [(1, 1), (1, 0)], "??;30 ??", "??;?? 0?"),
                   tablet_of("less sun", [(1, 1), (2, 1)], "0?;?? 00,??;??", "??;?? ??,??;30", "??;?? ??,1?;??"),
                   tablet_of("half", [(1, 0)], "0?", "??", "?4"), tablet_of("way", [(1, 0)], "??", "??", "?9")]
        for tablet in tablets:
            for row in range(-70, 70):
                self.assertEqual(bars(tablet, TABLE, row=row), barring(tablet, TABLE, row))

    def test_far_rows(self):
        for row in (FAR, -FAR, FAR - 13, 7 - FAR):
            told = [f"{TABLE.value('moon', at)[0]:02}" for at in range(row % 20, row % 20 + 5)]
            with soon():
                self.assertIsNone(bars(moons(*told), TABLE, row=row))
                self.assertEqual(bars(moons(*told[:4], "11"), TABLE, row=row), (4, "moon"))

    def test_a_column_that_the_table_has_not(self):
        tablet = tablet_of("moon new sun old", [(1, 0)] * 4, "59 59 59 59")
        for asked in (lambda: bars(tablet, TABLE, row=0), lambda: filled(tablet, TABLE, row=0),
                      lambda: stands(tablet, TABLE), lambda: sure(tablet, TABLE)):
            with self.assertRaises(NoColumn) as caught:
                asked()
            self.assertEqual(caught.exception.name, "new")

    def test_what_a_column_can_not_tell(self):
        table = Table([("count", counted(5001)), ("way", ("along", "count", (0, 1)))])
        blank = tablet_of("way", [(8, 0)], ",".join(["??"] * 8), ",".join(["??"] * 8))
        self.assertIsNone(bars(blank, table, row=4999))
        for row in (5000, 5001, FAR, -5001, -FAR):
            with self.assertRaises(TooMany):
                bars(blank, table, row=row)
            with self.assertRaises(TooMany):
                filled(blank, table, row=row)
            with self.assertRaises(TooMany):
                cut_out(table, names=["way"], forms=[(8, 0)], first=row, many=2)
        missing = tablet_of("way new", [(8, 0), (1, 0)], ",".join(["??"] * 8) + " 00")
        for asked in (bars, filled):
            with self.assertRaises(NoColumn):
                asked(missing, table, row=FAR)

    def test_how_it_is_handed_in(self):
        self.assertIsNone(bars(table=TABLE, tablet=moons("00"), row=0))
        with self.assertRaises(TypeError):
            bars(moons("00"), TABLE, 0)
        with self.assertRaises(TypeError):
            filled(moons("00"), TABLE, 0)
        for asked in (stands, sure):
            with self.assertRaises(TypeError):
                asked(moons("00"), TABLE, 5000)

    def test_what_is_told_is_a_tuple(self):
        told = bars(moons("00", "11"), TABLE, row=0)
        self.assertEqual([type(told), type(told[0]), type(told[1])], [tuple, int, str])


class OfStands(unittest.TestCase):
    """Points 4 and 18: all rows at which a tablet can stand, and no other."""

    def test_rows_of_a_return(self):
        self.assertEqual(stands(moons("03"), TABLE), [1, 19])
        self.assertEqual(stands(moons("03", "06"), TABLE), [1])
        self.assertEqual(stands(moons("03", "00"), TABLE), [19])
        self.assertEqual(stands(moons("0?", "10"), TABLE), [9])
        self.assertEqual(stands(moons("1?"), TABLE), [10])
        self.assertEqual(stands(moons("??"), TABLE), list(range(20)))
        self.assertEqual(stands(moons("2?"), TABLE), [])
        self.assertEqual(stands(moons("03", "03"), TABLE), [])

    def test_rows_that_lead_beyond_the_return(self):
        cells = [f"{MOON.value(row)[0]:02}" for row in range(17, 17 + 60)]
        self.assertEqual(stands(moons(*cells), TABLE), [17])
        self.assertEqual(stands(moons(*cells[:-1], "11"), TABLE), [])

    def test_up_to_the_least_number_that_all_returns_divide(self):
        blank = tablet_of("moon sun", [(1, 0), (2, 1)], "?? ??,??;??")
        self.assertEqual(stands(blank, TABLE), list(range(60)))
        self.assertEqual(stands(tablet_of("sun", [(2, 1)], "??,??;??"), TABLE), list(range(12)))
        self.assertEqual(stands(tablet_of("moon sun", [(1, 0), (2, 1)], "03 00,07;30"), TABLE), [1])
        self.assertEqual(stands(tablet_of("sun moon", [(2, 1), (1, 0)], "00,07;30 06"), TABLE), [])
        self.assertEqual(stands(tablet_of("sun moon", [(2, 1), (1, 0)], "00,07;30 0?"), TABLE), [1, 13, 25, 37, 49])

    def test_worths_that_do_not_fit(self):
        self.assertEqual(stands(tablet_of("sun", [(1, 1)], "??;??"), TABLE), list(range(8)))
        self.assertEqual(stands(tablet_of("sun", [(1, 1)], "??;??", "??;??", "??;??"), TABLE), list(range(6)))
        self.assertEqual(stands(tablet_of("half", [(1, 0)], "??"), TABLE), [0, 2, 4, 6, 8, 10, 12, 14, 16, 18])
        rows = [row for row in range(60) if fraction_of(TABLE.value("less", row)) >= 0]
        self.assertEqual(stands(tablet_of("less", [(1, 1)], "??;??"), TABLE), rows)
        self.assertIn(0, rows)

    def test_by_the_words_of_the_document(self):
        cells = ("??", "0?", "?3", "?5", "08", "1?")
        for one, other in product(cells, repeat=2):
            tablet = moons(one, other)
            self.assertEqual(stands(tablet, TABLE), [row for row in range(20) if barring(tablet, TABLE, row) is None])
        for one, other in product(("??,??;??", "??,0?;??", "00,3?;30", "??,?2;??", "01,??;??"), cells):
            tablet = tablet_of("both moon", [(2, 1), (1, 0)], "??,??;?? ??", f"{one} {other}")
            self.assertEqual(stands(tablet, TABLE), [row for row in range(60) if barring(tablet, TABLE, row) is None])

    def test_only_the_tablet_s_columns_are_asked(self):
        table = Table([("much", counted(5001)), ("long", ("along", "much", (0, 1))), *COLUMNS])
        self.assertEqual(stands(moons("03"), table), [1, 19])
        self.assertEqual(sure(moons("03", "?6"), table), moons("03", "06"))

    def test_most(self):
        blank = tablet_of("moon sun", [(1, 0), (2, 1)], "?? ??,??;??")
        for asked in (stands, sure):
            for most in (1, 20, 59):
                with self.assertRaises(TooMany):
                    asked(blank, TABLE, most=most)
        for most in (60, 61, 5000):
            self.assertEqual(stands(blank, TABLE, most=most), list(range(60)))
            self.assertEqual(len(sure(blank, TABLE, most=most)), 1)
        self.assertEqual(stands(moons("??"), Table([("moon", counted(1))]), most=1), [0])

    def test_most_where_it_is_not_told(self):
        form = [(3, 0)]
        for rows in (4999, 5000):
            table = Table([("count", counted(rows))])
            with soon():
                self.assertEqual(stands(tablet_of("count", form, "00,01,02"), table), [62])
                self.assertEqual(stands(tablet_of("count", form, "??,??,??", "00,00,00"), table), [rows - 1])
                self.assertEqual(sure(tablet_of("count", form, "??,2?,??", "00,00,??"), table),
                                 tablet_of("count", form, f"01,23,{rows - 4981}", "00,00,00"))
        for rows in (5001, 6000, FAR):
            table = Table([("count", counted(rows))])
            for asked in (stands, sure):
                with soon(), self.assertRaises(TooMany):
                    asked(tablet_of("count", form, "00,01,02"), table)
        table = Table([("one", counted(72)), ("other", counted(70))])
        self.assertEqual(stands(tablet_of("one other", [(2, 0)] * 2, "01,11 01,09"), table, most=2520), [2519])
        with self.assertRaises(TooMany):
            stands(tablet_of("one other", [(2, 0)] * 2, "01,11 01,09"), table, most=2519)

    def test_a_column_that_never_comes_again(self):
        for asked in (stands, sure):
            with self.assertRaises(NoReturn):
                asked(tablet_of("moon way", [(1, 0), (1, 0)], "?? ??"), TABLE)

    def test_which_refusal_comes_first(self):
        table = Table([("moon", MOON), ("count", counted(5001)), ("never", ("along", "moon", (0, 1))),
                       ("much", ("along", "count", (0, 1)))])

        def refused(names, error):
            names = names.split()
            tablet = Tablet(names=names, forms=[(1, 0)] * len(names), rows=[["??"] * len(names)])
            for asked in (stands, sure):
                with self.assertRaises(error):
                    asked(tablet, table)
                with self.assertRaises(error):
                    asked(tablet, table, most=1)

        refused("never new much", NoColumn)
        refused("much never new", NoColumn)
        refused("never much", TooMany)
        refused("much never", TooMany)
        refused("count never", NoReturn)
        refused("never count", NoReturn)
        refused("moon count", TooMany)

    def test_columns_that_come_again_along(self):
        # Less the mean of its worths the moon comes to nothing in a return.
        mean = Fraction(sum(MOON.value(row)[0] for row in range(20)), 20)
        corners = [((0, 1), worth_of(-mean)), ((1, 1), worth_of(1 - mean))]
        table = Table([("moon", MOON), ("off", ("by", "moon", corners)), ("way", ("along", "off", (30, 1)))])
        self.assertEqual(table.return_of("way"), 20)
        texts = [shown(table.value("way", row), (1, 0)) for row in range(20)]
        tablet = tablet_of("way moon", [(1, 0), (1, 0)], *[f"{texts[(17 + at) % 20]} ??" for at in range(30)])
        self.assertEqual(stands(tablet, table), [17])
        self.assertIsNone(bars(tablet, table, row=20 * 10 ** 9 + 17))

    def test_the_list_is_the_askers_own(self):
        tablet = moons("03")
        told = stands(tablet, TABLE)
        self.assertIs(type(told), list)
        told.append(99)
        self.assertEqual(stands(tablet, TABLE), [1, 19])

    def test_the_greatest_tablets_soon(self):
        names = list("abcdefghijkl")
        parts = [(name, ("times", "a", (at, 13))) for at, name in enumerate(names[1:], 1)]
        table = Table([("a", counted(5000)), *parts])
        form, cell = (8, 8), ",".join(["??"] * 8) + ";" + ",".join(["??"] * 8)
        tablet = Tablet(names=names, forms=[(8, 8)] * 12, rows=[[cell] * 12] * 60)
        with soon(60):
            self.assertEqual(stands(tablet, table), [])
            table = Table([(name, counted(5000)) for name in names])
            self.assertEqual(stands(tablet, table), list(range(5000)))
            known = Tablet(names=names, forms=[form] * 12, rows=[["00" + cell[2:]] * 12] * 60)
            self.assertEqual(len(stands(known, table)), 5000)


class OfFilled(unittest.TestCase):
    """Points 4 and 19: filled and sure."""

    def test_filled_with_all_its_figures(self):
        tablet = tablet_of("moon sun", [(1, 0), (2, 1)], "?? ??,??;??", "0? 00,??;??", "06 ??,?5;00")
        whole = tablet_of("moon sun", [(1, 0), (2, 1)], "00 00,00;00", "03 00,07;30", "06 00,15;00")
        self.assertEqual(filled(tablet, TABLE, row=0), whole)
        self.assertEqual(filled(whole, TABLE, row=0), whole)
        self.assertEqual((tablet.lost(), whole.lost()), (16, 0))

    def test_filled_at_each_row_at_which_it_stands(self):
        tablet = tablet_of("both moon", [(2, 1), (1, 0)], "??,??;30 ??", "??,??;?? 0?")
        for row in range(-60, 60):
            if barring(tablet, TABLE, row) is None:
                whole = filled(tablet, TABLE, row=row)
                rows = [[shown(TABLE.value("both", at), (2, 1)), shown(TABLE.value("moon", at), (1, 0))]
                        for at in (row, row + 1)]
                self.assertEqual(whole, Tablet(names=["both", "moon"], forms=[(2, 1), (1, 0)], rows=rows))
                self.assertEqual((whole.lost(), len(whole)), (0, 2))

    def test_filled_where_it_does_not_stand(self):
        for tablet, row, told in ((moons("00", "04"), 0, (1, "moon")), (moons("01"), 0, (0, "moon")),
                                  (tablet_of("sun", [(1, 1)], "??;??", "??;??", "??;??"), 6, (2, "sun")),
                                  (tablet_of("sun less", [(2, 1), (1, 1)], "??,??;?? ??;??"), 1, (0, "less"))):
            with self.assertRaises(Barred) as caught:
                filled(tablet, TABLE, row=row)
            self.assertEqual((caught.exception.row, caught.exception.name), told)
            self.assertEqual(bars(tablet, TABLE, row=row), told)

    def test_filled_at_far_rows(self):
        with soon():
            for row in (FAR, -FAR, FAR - 7):
                whole = filled(moons("??", "??"), TABLE, row=row)
                self.assertEqual(whole, moons(*[f"{MOON.value(at)[0]:02}" for at in (row, row + 1)]))

    def test_filled_of_sixty_rows(self):
        whole = filled(moons(*["??"] * 60), TABLE, row=-30)
        self.assertEqual(whole.rows(), [[f"{MOON.value(row)[0]:02}"] for row in range(-30, 30)])

    def test_sure_figures_are_the_same_wherever_it_stands(self):
        # It stands at 1 and 19: there the next worths are 6 and 0.
        self.assertEqual(stands(moons("03", "??"), TABLE), [1, 19])
        self.assertEqual(sure(moons("03", "??"), TABLE), moons("03", "0?"))
        self.assertEqual(sure(moons("?3", "?6"), TABLE), moons("03", "06"))
        self.assertEqual(sure(moons("1?", "??", "??"), TABLE), moons("10", "07", "04"))
        self.assertEqual(sure(moons("??"), TABLE), moons("??"))
        self.assertEqual(sure(moons("0?"), TABLE), moons("0?"))

    def test_sure_of_columns_of_parts(self):
        tablet = tablet_of("sun moon", [(2, 1), (1, 0)], "??,??;?? 10", "??,??;?? ??")
        # The moon is 10 at rows 10, 30 and 50, the sun 75, 45 and 15 there.
        self.assertEqual(stands(tablet, TABLE), [10, 30, 50])
        self.assertEqual(sure(tablet, TABLE), tablet_of("sun moon", [(2, 1), (1, 0)], "0?,?5;00 10", "0?,?2;30 07"))

    def test_sure_where_only_some_rows_fit(self):
        tablet = tablet_of("half", [(1, 0)], "0?", "??", "0?")
        self.assertEqual(stands(tablet, TABLE), [])
        with self.assertRaises(Nowhere):
            sure(tablet, TABLE)
        tablet = tablet_of("sun", [(1, 1)], "5?;??")
        self.assertEqual(stands(tablet, TABLE), [7])
        self.assertEqual(sure(tablet, TABLE), tablet_of("sun", [(1, 1)], "52;30"))

    def test_sure_by_the_words_of_the_document(self):
        suns = ("??,??;??", "??,0?;??", "00,3?;30", "??,?2;??")
        for one, other in product(("??", "0?", "?3", "?5", "08", "1?"), suns):
            tablet = tablet_of("both moon", [(2, 1), (1, 0)], f"{other} ??", f"??,??;?? {one}")
            wholes = [filled(tablet, TABLE, row=row).rows() for row in range(60) if barring(tablet, TABLE, row) is None]
            if not wholes:
                with self.assertRaises(Nowhere):
                    sure(tablet, TABLE)
                continue
            rows = [[alike(texts) for texts in zip(*cells)] for cells in zip(*wholes)]
            self.assertEqual(sure(tablet, TABLE), Tablet(names=["both", "moon"], forms=[(2, 1), (1, 0)], rows=rows))

    def test_sure_of_what_can_stand_nowhere(self):
        for tablet in (moons("2?"), moons("03", "03"), tablet_of("moon sun", [(1, 0), (2, 1)], "06 00,07;30")):
            self.assertEqual(stands(tablet, TABLE), [])
            with self.assertRaises(Nowhere):
                sure(tablet, TABLE)

    def test_the_tablet_itself_stays_as_it_was(self):
        tablet = moons("03", "??")
        for asked in (lambda: filled(tablet, TABLE, row=1), lambda: sure(tablet, TABLE)):
            self.assertIsNot(asked(), tablet)
            self.assertEqual(tablet, moons("03", "??"))
        with self.assertRaises(Barred):
            filled(tablet, TABLE, row=0)
        self.assertEqual(tablet, moons("03", "??"))


class OfCutOut(unittest.TestCase):
    """Point 20: cut_out."""

    SO = {"names": ["sun", "moon"], "forms": [(2, 1), (1, 0)], "first": 1, "many": 2}

    def refused(self, error, **told):
        with self.assertRaises(error) as caught:
            cut_out(TABLE, **{**self.SO, **told})
        return caught.exception

    def test_rows_of_a_table(self):
        tablet = cut_out(TABLE, **self.SO)
        self.assertEqual(tablet, tablet_of("sun moon", [(2, 1), (1, 0)], "00,07;30 03", "00,15;00 06"))
        self.assertEqual((tablet.lost(), tablet.known()), (0, 16))
        self.assertIn(1, stands(tablet, TABLE))

    def test_one_row_where_many_is_not_told(self):
        tablet = cut_out(TABLE, names=["moon"], forms=[(1, 0)], first=3)
        self.assertEqual(tablet, moons("09"))

    def test_one_and_sixty_rows_from_any_first(self):
        with soon():
            for many in (1, 2, 60):
                for first in (0, 5, -7, -60, FAR, -FAR):
                    tablet = cut_out(TABLE, names=["moon", "sun"], forms=[(1, 0), (2, 1)], first=first, many=many)
                    rows = [[shown(MOON.value(row), (1, 0)), shown(SUN.value(row), (2, 1))]
                            for row in range(first, first + many)]
                    self.assertEqual(tablet, Tablet(names=["moon", "sun"], forms=[(1, 0), (2, 1)], rows=rows))

    def test_no_such_number_of_rows(self):
        for many in (None, True, False, 0, -1, 61, 62, FAR, "1", b"1", [1], (), (1, 1), {}):
            with self.subTest(many=many):
                self.assertEqual(self.refused(NoTablet, many=many).why, "rows")

    def test_names_that_are_no_such_list(self):
        for names in (*ODD_THINGS, [], ("sun", "moon"), ["moon", "moon"], ["Moon", "sun"], ["sun", None],
                      ["moon", ""], list("abcdefghijklm"), {"sun": 1, "moon": 2}):
            with self.subTest(names=names):
                self.assertEqual(self.refused(NoTablet, names=names).why, "names")

    def test_a_column_that_the_table_has_not(self):
        self.assertEqual(self.refused(NoColumn, names=["sun", "new"]).name, "new")
        self.assertEqual(self.refused(NoColumn, names=["old", "new"]).name, "old")

    def test_forms_that_are_no_such_list(self):
        for forms in (*ODD_THINGS, [], [(2, 1)], [(2, 1), (1, 0), (1, 0)], ((2, 1), (1, 0)), [(2, 1), (0, 0)],
                      [(2, 1), (9, 0)], [(2, 1), (1, 9)], [(2, 1), (1, -1)], [(2, 1), (True, 0)], [(2, 1), (1, False)],
                      [(2, 1), [1, 0]], [None, (1, 0)]):
            with self.subTest(forms=forms):
                self.assertEqual(self.refused(NoTablet, forms=forms).why, "forms")

    def test_a_worth_that_does_not_fit(self):
        # The moon comes to 10 and the sun to 60 at last; at odd rows the sun isn't whole.
        refusal = self.refused(Barred, forms=[(1, 1), (1, 0)], first=5, many=60)
        self.assertEqual((refusal.row, refusal.name), (3, "sun"))
        refusal = self.refused(Barred, forms=[(2, 0), (1, 0)], first=2)
        self.assertEqual((refusal.row, refusal.name), (1, "sun"))
        refusal = self.refused(Barred, names=["moon", "less", "sun"], forms=[(1, 0), (1, 1), (2, 0)], first=1)
        self.assertEqual((refusal.row, refusal.name), (0, "less"))
        refusal = self.refused(Barred, names=["moon", "sun", "less"], forms=[(1, 0), (2, 0), (1, 1)], first=1)
        self.assertEqual((refusal.row, refusal.name), (0, "sun"))

    def test_which_refusal_comes_first(self):
        wrong = {"many": 0, "names": [], "forms": [], "first": 8}
        self.assertEqual(self.refused(NoTablet, **wrong).why, "rows")
        self.assertEqual(self.refused(NoTablet, many=0, names=["new"]).why, "rows")
        self.assertEqual(self.refused(NoTablet, many=61, forms=[]).why, "rows")
        self.assertEqual(self.refused(NoTablet, many=61, forms=[(1, 0), (1, 0)]).why, "rows")
        self.assertEqual(self.refused(NoTablet, names=["new", "new"], forms=[]).why, "names")
        self.assertEqual(self.refused(NoTablet, names=["new", None]).why, "names")
        self.assertEqual(self.refused(NoColumn, names=["sun", "new"], forms=[]).name, "new")
        self.assertEqual(self.refused(NoColumn, names=["sun", "new"], forms=[(1, 0), (1, 0)], first=8).name, "new")
        self.assertEqual(self.refused(NoTablet, forms=[(1, 0), (0, 0)], first=8).why, "forms")

    def test_lists_that_were_handed_in(self):
        names, forms = ["sun", "moon"], [(2, 1), (1, 0)]
        tablet = cut_out(TABLE, names=names, forms=forms, first=1, many=2)
        self.assertEqual((names, forms), (["sun", "moon"], [(2, 1), (1, 0)]))
        names.clear()
        forms.clear()
        self.assertEqual(tablet, cut_out(TABLE, **self.SO))

    def test_how_it_is_handed_in(self):
        with self.assertRaises(TypeError):
            cut_out(TABLE, ["moon"], [(1, 0)], 3)
        self.assertEqual(cut_out(table=TABLE, many=1, first=3, forms=[(1, 0)], names=["moon"]), moons("09"))


class OfBroken(unittest.TestCase):
    """Point 20: broken."""

    TABLET = tablet_of("moon sun", [(1, 0), (2, 1)], "05 01,09;30", "?0 00,5?;??")

    def why_of(self, places):
        with self.assertRaises(NoTablet) as caught:
            broken(self.TABLET, places=places)
        self.assertEqual(self.TABLET, tablet_of("moon sun", [(1, 0), (2, 1)], "05 01,09;30", "?0 00,5?;??"))
        return caught.exception.why

    def after(self, *rows):
        return tablet_of("moon sun", [(1, 0), (2, 1)], *rows)

    def test_figures_at_places_are_lost(self):
        told = broken(self.TABLET, places=[(0, "moon", 0)])
        self.assertEqual(told, self.after("?5 01,09;30", "?0 00,5?;??"))
        told = broken(self.TABLET, places=[(1, "sun", 3), (0, "sun", 6), (0, "moon", 1), (1, "moon", 1), (0, "sun", 0)])
        self.assertEqual(told, self.after("0? ?1,09;?0", "?? 00,??;??"))
        self.assertEqual((told.known(), told.lost()), (7, 9))

    def test_each_place(self):
        for place in (0, 1, 3, 4, 6, 7):
            cell = "01,09;30"
            cell = cell[:place] + "?" + cell[place + 1:]
            self.assertEqual(broken(self.TABLET, places=[(0, "sun", place)]), self.after(f"05 {cell}", "?0 00,5?;??"))

    def test_no_place_at_all(self):
        self.assertEqual(broken(self.TABLET, places=[]), self.TABLET)
        self.assertIsNot(broken(self.TABLET, places=[]), self.TABLET)

    def test_a_place_told_twice(self):
        told = broken(self.TABLET, places=[(0, "moon", 0), (0, "moon", 0), (0, "moon", 1), (0, "moon", 0)])
        self.assertEqual(told, self.after("?? 01,09;30", "?0 00,5?;??"))

    def test_a_figure_that_is_lost_already(self):
        self.assertEqual(broken(self.TABLET, places=[(1, "moon", 0), (1, "sun", 6), (1, "sun", 7)]), self.TABLET)

    def test_places_that_are_no_list(self):
        for places in (*ODD_THINGS, ((0, "moon", 0),), {(0, "moon", 0): 1}, "moon", self.TABLET):
            with self.subTest(places=places):
                self.assertEqual(self.why_of(places), "places")

    def test_what_is_no_place(self):
        for place in (*ODD_THINGS, [0, "moon", 0], (0, "moon"), (0, "moon", 0, 0), ("moon", 0, 0),
                      (0, 0, "moon"), (0, 0, 0), "000", (True, "moon", 0), (False, "moon", 0), (0, "moon", True),
                      (0, "moon", False), (None, "moon", 0), (0, "moon", None), ("0", "moon", 0), (0, "moon", "0"),
                      (0, None, 0), (0, ["moon"], 0), (0, "new", 0), (0, "", 0), (0, "MOON", 0)):
            with self.subTest(place=place):
                self.assertEqual(self.why_of([place]), "places")
                self.assertEqual(self.why_of([(0, "moon", 0), place]), "places")
                self.assertEqual(self.why_of([place, (0, "moon", 0)]), "places")

    def test_places_beyond_the_tablet(self):
        for place in ((2, "moon", 0), (-1, "moon", 0), (FAR, "moon", 0), (0, "moon", 2), (0, "moon", -1),
                      (0, "moon", -2), (0, "sun", 8), (0, "sun", -1), (0, "sun", FAR), (0, "moon", 3), (60, "sun", 0)):
            with self.subTest(place=place):
                self.assertEqual(self.why_of([place]), "places")

    def test_places_at_a_comma_or_semicolon(self):
        for place in (2, 5):
            for row in (0, 1):
                self.assertEqual(self.why_of([(row, "sun", place)]), "places")

    def test_lists_that_were_handed_in(self):
        places = [(0, "moon", 0), (1, "sun", 3)]
        told = broken(self.TABLET, places=places)
        self.assertEqual(places, [(0, "moon", 0), (1, "sun", 3)])
        places.append((0, "moon", 1))
        self.assertEqual(told, self.after("?5 01,09;30", "?0 00,??;??"))

    def test_the_tablet_itself_stays_as_it_was(self):
        broken(self.TABLET, places=[(0, "moon", 0), (0, "sun", 0)])
        self.assertEqual(self.TABLET, self.after("05 01,09;30", "?0 00,5?;??"))

    def test_how_it_is_handed_in(self):
        with self.assertRaises(TypeError):
            broken(self.TABLET, [])
        self.assertEqual(broken(places=[], tablet=self.TABLET), self.TABLET)

    def test_what_is_broken_stands_where_it_was_cut_out(self):
        for first in range(-20, 20):
            tablet = cut_out(TABLE, names=["both", "moon"], forms=[(2, 1), (1, 0)], first=first, many=3)
            torn = broken(tablet, places=[(1, "moon", 1), (0, "both", 4), (2, "both", 7), (2, "both", 6)])
            self.assertIsNone(bars(torn, TABLE, row=first))
            self.assertIn(first % 60, stands(torn, TABLE))
            self.assertEqual(filled(torn, TABLE, row=first), tablet)


class OfPointTwo(unittest.TestCase):
    """Point 2: asked again, the same is told."""

    def test_again(self):
        tablet = tablet_of("both moon", [(2, 1), (1, 0)], "??,??;30 ??", "??,??;?? 0?")
        for _ in range(2):
            first = [bars(tablet, TABLE, row=row) for row in range(-9, 9)]
            self.assertEqual(first, [bars(tablet, TABLE, row=row) for row in range(-9, 9)])
            self.assertEqual(stands(tablet, TABLE), stands(tablet, TABLE))
            self.assertEqual(sure(tablet, TABLE), sure(tablet, TABLE))


if __name__ == "__main__":
    unittest.main()
