"""Points 27 to 30: wrong signs; points 2, 3 and 4 as they hold for these."""

import unittest
from itertools import product

from helpers import FAR, counted, shown, soon, tablet_of
from tabletsky.errors import Barred, NoColumn, NoReturn, Nowhere, TooMany
from tabletsky.lines import Line
from tabletsky.mends import guard, least, mended, wrong
from tabletsky.tables import Table
from tabletsky.tablets import Tablet, bars, broken, cut_out, filled, stands
from tabletsky.zones import Zones

# The moon comes again behind 20 rows: 0, 3, 6, 9, 8, 5, 2, 1, 4, 7, 10 and back; the sun behind 12.
MOON = Line(low=(0, 1), high=(10, 1), step=(3, 1), at=(0, 1))
SUN = Zones(ring=(90, 1), borders=[(0, 1), (30, 1)], steps=[(15, 2), (15, 2)], at=(0, 1))
TABLE = Table([("moon", MOON), ("sun", SUN), ("less", ("less", "moon", "sun")), ("way", ("along", "moon", (1, 1))),
               ("half", ("times", "moon", (1, 2)))])
LONG = Table([("day", counted(5000)), ("far", counted(5001)), ("on", ("along", "far", (0, 1)))])
FORMS = [(1, 0), (2, 1)]
BOTH = tablet_of("moon sun", FORMS, "03 00,07;30", "06 00,15;00")


def moons(*cells):
    return tablet_of("moon", [(1, 0)], *cells)


def halves(*cells):
    return tablet_of("half", [(1, 0)], *cells)


def wrong_places(tablet, table, row):
    """The places of wrong figures by the words of points 27 and 29; None where a worth doesn't fit."""
    places = []
    for number, cells in enumerate(tablet.rows()):
        for name, form, cell in zip(tablet.names(), tablet.forms(), cells):
            text = shown(table.value(name, row + number), form)
            if text is None:
                return None
            places += [(number, name, at) for at, (mine, true) in enumerate(zip(cell, text)) if mine not in ("?", true)]
    return places


def wrong_counts(tablet, table, many):
    """How many figures are wrong at each row of a return; None where a worth doesn't fit."""
    places = [wrong_places(tablet, table, row) for row in range(many)]
    return [None if some is None else len(some) for some in places]


class OfWrong(unittest.TestCase):
    """Point 27."""

    def test_how_many_figures_are_wrong(self):
        self.assertEqual(wrong(BOTH, TABLE, row=1), 0)
        self.assertEqual(wrong(moons("03"), TABLE, row=0), 1)
        self.assertEqual(wrong(moons("13", "07"), TABLE, row=1), 2)
        self.assertEqual(wrong(moons("43", "17", "30"), TABLE, row=1), 5)
        self.assertEqual(wrong(tablet_of("moon sun", FORMS, "04 11,07;20"), TABLE, row=1), 4)
        self.assertIs(type(wrong(BOTH, TABLE, row=1)), int)

    def test_lost_figures_play_no_part(self):
        self.assertEqual(wrong(moons("??"), TABLE, row=1), 0)
        self.assertEqual(wrong(moons("?4", "1?"), TABLE, row=1), 2)
        self.assertEqual(wrong(moons("?3", "0?"), TABLE, row=1), 0)

    def test_a_worth_that_does_not_fit(self):
        self.assertIsNone(wrong(halves("??"), TABLE, row=1))
        self.assertEqual(wrong(halves("??"), TABLE, row=2), 0)
        self.assertIsNone(wrong(halves("59", "??"), TABLE, row=2))
        self.assertIsNone(wrong(tablet_of("less", [(1, 1)], "??;??"), TABLE, row=1))
        self.assertIsNone(wrong(tablet_of("moon sun", [(1, 0), (1, 0)], "03 ??"), TABLE, row=1))

    def test_by_the_words_of_the_document(self):
        tablets = [BOTH, moons("03"), moons("0?", "?7", "59"), halves("03", "??"), halves("0?", "??", "??"),
                   tablet_of("half sun", [(1, 1), (2, 1)], "01;3? ??,07;30", "?3;00 0?,1?;?1")]
        for tablet in tablets:
            told = [wrong(tablet, TABLE, row=row) for row in range(-25, 65)]
            for row, many in zip(range(-25, 65), told):
                places = wrong_places(tablet, TABLE, row)
                self.assertEqual(many, None if places is None else len(places))
                if bars(tablet, TABLE, row=row) is None:
                    self.assertEqual(many, 0)

    def test_rows_far_off(self):
        with soon():
            for row in (FAR, -FAR):
                whole = cut_out(TABLE, names=["moon", "sun"], forms=FORMS, first=row, many=3)
                self.assertEqual(wrong(whole, TABLE, row=row), 0)
                self.assertEqual(wrong(whole, TABLE, row=row + 1), len(wrong_places(whole, TABLE, row + 1)))

    def test_a_column_that_the_table_has_not(self):
        tablet = tablet_of("moon new old", [(1, 0)] * 3, "05 05 05")
        for ask in (lambda: wrong(tablet, TABLE, row=1), lambda: least(tablet, TABLE, most=1),
                    lambda: mended(tablet, TABLE, row=1), lambda: guard(tablet, TABLE, row=1, most=1)):
            with self.assertRaises(NoColumn) as caught:
                ask()
            self.assertEqual(caught.exception.name, "new")

    def test_where_no_return_plays_a_part(self):
        way = tablet_of("way", [(1, 0)], "05")
        self.assertEqual((TABLE.value("way", 2), wrong(way, TABLE, row=2)), ((4, 1), 1))
        self.assertEqual(mended(way, TABLE, row=2), (tablet_of("way", [(1, 0)], "04"), [(0, "way", 1)]))
        with self.assertRaises(TooMany):
            wrong(tablet_of("on", [(1, 0)], "05"), LONG, row=5001)

    def test_how_it_is_handed_in(self):
        with self.assertRaises(TypeError):
            wrong(BOTH, TABLE, 1)
        self.assertEqual(wrong(row=2, table=TABLE, tablet=moons("03")), 1)


class OfLeast(unittest.TestCase):
    """Point 28."""

    def test_where_it_stands(self):
        self.assertEqual(least(moons("03"), TABLE), (0, [1, 19]))
        self.assertEqual(least(BOTH, TABLE), (0, [1]))
        for tablet in (moons("??"), moons("?3", "0?"), BOTH, halves("0?"), halves("05"),
                       tablet_of("sun", [(2, 1)], "00,??;30")):
            self.assertEqual(least(tablet, TABLE), (0, stands(tablet, TABLE)))

    def test_where_it_stands_nowhere(self):
        self.assertEqual(least(moons("13"), TABLE), (1, [1, 10, 19]))
        self.assertEqual(least(moons("03", "07"), TABLE), (1, [1, 8, 19]))
        self.assertEqual(least(moons("59"), TABLE), (1, [3, 17]))
        self.assertEqual(least(moons("55"), TABLE), (1, [5, 15]))
        self.assertEqual(least(moons("5?"), TABLE), (1, list(range(20))))
        self.assertIs(type(least(moons("13"), TABLE)), tuple)

    def test_by_the_words_of_the_document(self):
        tablets = [moons(*cells) for cells in product(("03", "1?", "59", "??"), repeat=3)]
        tablets += [halves(*cells) for cells in product(("03", "??", "5?"), repeat=1)]
        tablets += [tablet_of("moon sun", FORMS, f"{one} 0?,{other};30", "?? ??,?5;??")
                    for one, other in product(("03", "1?", "?9"), ("07", "3?", "?2"))]
        for tablet in tablets:
            counts = wrong_counts(tablet, TABLE, 60 if len(tablet.names()) == 2 else 20)
            fewest = min(many for many in counts if many is not None)
            self.assertEqual(least(tablet, TABLE), (fewest, [row for row, many in enumerate(counts) if many == fewest]))

    def test_many_wrong_figures(self):
        # Just as many as it has, whatever this number is.
        for many in (1, 2, 3, 7, 8, 30, 60):
            tablet = moons(*["5?"] * many)
            self.assertEqual(least(tablet, TABLE), (many, list(range(20))))
        whole = cut_out(TABLE, names=["moon"], forms=[(1, 0)], first=4, many=60)
        rows = [["59"] if row % 2 else cells for row, cells in enumerate(whole.rows())]
        self.assertEqual(least(Tablet(names=["moon"], forms=[(1, 0)], rows=rows), TABLE)[1], [4])

    def test_a_worth_that_fits_at_no_row(self):
        for tablet in (tablet_of("sun", [(1, 0)], "??", "??"), tablet_of("half", [(1, 0)], *["??"] * 6)):
            self.assertEqual(stands(tablet, TABLE), [])
            with self.assertRaises(Nowhere):
                least(tablet, TABLE)
        # In these rows it's whole: half of 10 alone, and of 0, 6, 8, 2 and 4.
        self.assertEqual(least(halves("59"), TABLE), (2, [0, 2, 4, 6, 8, 10, 12, 14, 16, 18]))

    def test_a_column_that_never_comes_again(self):
        for ask in (lambda: least(tablet_of("moon way", FORMS, "05 01,09;30"), TABLE, most=1),
                    lambda: guard(tablet_of("way", FORMS[:1], "05"), TABLE, row=2, most=1)):
            self.assertRaises(NoReturn, ask)

    def test_more_rows_than_may_be(self):
        day, far = tablet_of("day", [(2, 0)], "00,07"), tablet_of("far", [(2, 0)], "00,07")
        self.assertEqual(least(day, LONG), (0, [7]))
        self.assertEqual(least(day, LONG, most=5000), (0, [7]))
        self.assertEqual(guard(day, LONG, row=7), (0, 0))
        for ask in (lambda: least(day, LONG, most=4999), lambda: guard(day, LONG, row=7, most=4999),
                    lambda: least(far, LONG), lambda: guard(far, LONG, row=7)):
            self.assertRaises(TooMany, ask)
        self.assertEqual(least(moons("13"), TABLE, most=20), (1, [1, 10, 19]))
        self.assertRaises(TooMany, least, moons("13"), TABLE, most=19)
        # The sum of more than 5,000 rows would be needed.
        on = tablet_of("on way", [(1, 0)] * 2, "05 05")
        table = Table([("far", counted(5001)), ("on", ("along", "far", (0, 1))), ("way", ("along", "far", (0, 1)))])
        for ask in (lambda: least(on, table), lambda: guard(on, table, row=1)):
            self.assertRaises(TooMany, ask)

    def test_all_rows_of_a_long_return(self):
        tablet = tablet_of("day", [(3, 0)], "00,00,??", "00,?1,??")
        table = Table([("day", counted(4999))])
        with soon():
            counts = wrong_counts(tablet, table, 4999)
            fewest = min(counts)
            self.assertEqual(least(tablet, table), (fewest, [row for row in range(4999) if counts[row] == fewest]))

    def test_how_it_is_handed_in(self):
        with self.assertRaises(TypeError):
            least(BOTH, TABLE, 5000)
        told = least(most=20, table=TABLE, tablet=moons("03"))
        self.assertEqual(told, (0, [1, 19]))
        told[1].clear()
        self.assertEqual(least(moons("03"), TABLE), (0, [1, 19]))


class OfMended(unittest.TestCase):
    """Point 29."""

    def test_wrong_figures_are_put_right(self):
        tablet = tablet_of("moon sun", FORMS, "14 00,37;3?", "?7 0?,15;01")
        told = mended(tablet, TABLE, row=1)
        self.assertEqual(told, (tablet_of("moon sun", FORMS, "03 00,07;3?", "?6 0?,15;00"), [
            (0, "moon", 0), (0, "moon", 1), (0, "sun", 3), (1, "moon", 1), (1, "sun", 7)]))
        self.assertEqual([type(some) for some in (told, *told)], [tuple, Tablet, list])
        self.assertEqual(tablet, tablet_of("moon sun", FORMS, "14 00,37;3?", "?7 0?,15;01"))

    def test_nothing_is_wrong(self):
        for tablet in (BOTH, tablet_of("moon sun", FORMS, "0? ??,?7;30"), tablet_of("moon sun", FORMS, "?? ??,??;??")):
            self.assertEqual(mended(tablet, TABLE, row=1), (tablet, []))

    def test_lost_figures_stay_lost(self):
        self.assertEqual(mended(moons("1?", "?9"), TABLE, row=1), (moons("0?", "?6"), [(0, "moon", 0), (1, "moon", 1)]))

    def test_by_the_words_of_the_document(self):
        tablets = [BOTH, moons("03"), moons("0?", "?7", "59"), halves("03", "??"), halves("5?"),
                   tablet_of("half sun", [(1, 1), (2, 1)], "01;3? ??,07;30", "?3;00 0?,1?;?1")]
        for tablet in tablets:
            for row in range(-20, 40):
                places = wrong_places(tablet, TABLE, row)
                if places is None:
                    with self.assertRaises(Barred):
                        mended(tablet, TABLE, row=row)
                    continue
                told, order = mended(tablet, TABLE, row=row)
                self.assertEqual(order, places)
                self.assertEqual(len(order), wrong(tablet, TABLE, row=row))
                self.assertIsNone(bars(told, TABLE, row=row))
                self.assertEqual(broken(told, places=order), broken(tablet, places=order))
                self.assertEqual((told.known(), told.lost()), (tablet.known(), tablet.lost()))

    def test_barred_at_the_first_worth_that_does_not_fit(self):
        def barred(tablet, row):
            with self.assertRaises(Barred) as caught:
                mended(tablet, TABLE, row=row)
            with self.assertRaises(Barred) as again:
                guard(tablet, TABLE, row=row)
            self.assertEqual((again.exception.row, again.exception.name),
                             (caught.exception.row, caught.exception.name))
            return (caught.exception.row, caught.exception.name)

        self.assertEqual(barred(halves("05"), 1), (0, "half"))
        # It bars where figures are wrong, too, but here it's the worth alone that counts.
        self.assertEqual(barred(halves("59", "??"), 0), (1, "half"))
        self.assertEqual(barred(halves("03", "01"), 2), (1, "half"))
        both = tablet_of("moon half sun", [(1, 0), (1, 0), (1, 0)], "5? ?? ??", "?? ?? ??")
        self.assertEqual(barred(both, 0), (1, "half"))
        self.assertEqual(barred(both, 2), (1, "half"))
        self.assertEqual(barred(both, 3), (0, "half"))
        both = tablet_of("moon sun half", [(1, 0), (1, 0), (1, 0)], "5? ?? ??")
        self.assertEqual(barred(both, 1), (0, "sun"))

    def test_what_was_told_is_the_asker_s_own(self):
        tablet = moons("13")
        _, places = mended(tablet, TABLE, row=1)
        places.clear()
        self.assertEqual(mended(tablet, TABLE, row=1), (moons("03"), [(0, "moon", 0)]))
        self.assertIsNot(mended(BOTH, TABLE, row=1)[0], BOTH)

    def test_how_it_is_handed_in(self):
        with self.assertRaises(TypeError):
            mended(BOTH, TABLE, 1)
        self.assertEqual(mended(row=1, table=TABLE, tablet=BOTH), (BOTH, []))


def guarded(tablet, table, row, many):
    """What guard tells by the words of point 30."""
    right, _ = mended(tablet, table, row=row)
    counts = wrong_counts(right, table, many)
    fewest = min([some for some in counts if some], default=None)
    if fewest is None:
        return (tablet.known(), None)
    return ((fewest - 1) // 2, counts.index(fewest))


class OfGuard(unittest.TestCase):
    """Point 30."""

    def test_how_many_are_surely_put_right(self):
        # By one figure another moon can stand there, so none is sure.
        self.assertEqual(guard(moons("03"), TABLE, row=1), (0, 0))
        # 5 rows unlike another 5 in 5 figures at least.
        whole = cut_out(TABLE, names=["moon"], forms=[(1, 0)], first=0, many=5)
        counts = wrong_counts(whole, TABLE, 20)
        self.assertEqual(guard(whole, TABLE, row=0), guarded(whole, TABLE, 0, 20))
        self.assertEqual(sorted(counts)[:2], [0, 4])
        self.assertEqual(guard(whole, TABLE, row=0), (1, counts.index(4)))

    def test_the_half_of_one_less_rounded_down(self):
        seen = set()
        for first, many in product(range(20), range(1, 20)):
            whole = cut_out(TABLE, names=["moon"], forms=[(1, 0)], first=first, many=many)
            told = guard(whole, TABLE, row=first)
            fewest = min(some for some in wrong_counts(whole, TABLE, 20) if some)
            self.assertEqual(told[0], (fewest - 1) // 2)
            seen.add(fewest % 2)
        self.assertEqual(seen, {0, 1})

    def test_of_rows_with_as_few_the_first_one(self):
        for tablet, row, others in ((moons("03", "06"), 1, [17, 19]), (moons("06", "09"), 2, [16, 18])):
            counts = wrong_counts(tablet, TABLE, 20)
            self.assertEqual([other for other in range(20) if counts[other] == 1], others)
            self.assertEqual(guard(tablet, TABLE, row=row), (0, others[0]))

    def test_no_other_row_has_a_wrong_figure(self):
        self.assertEqual(guard(moons("??", "??"), TABLE, row=3), (0, None))
        zeros = tablet_of("half", [(2, 1)], "1?,??;??", "3?,??;??")
        self.assertEqual(guard(zeros, TABLE, row=4), (2, None))
        for row in (0, 3, FAR):
            same = Table([("still", Line(low=(0, 1), high=(10, 1), step=(10, 1), at=(5, 1)))])
            self.assertEqual(guard(tablet_of("still", [(1, 0)], "13", "?5"), same, row=row), (3, None))

    def test_rows_at_which_a_worth_does_not_fit_play_no_part(self):
        # Of the halves but each other row can be shown.
        self.assertEqual(guard(halves("0?"), TABLE, row=0), (1, None))
        self.assertEqual(guard(halves("00"), TABLE, row=0), (0, 2))

    def test_by_the_words_of_the_document(self):
        tablets = [BOTH, moons("03"), moons("0?", "?7", "59"), halves("03"), halves("5?"), moons("1?", "??", "?4"),
                   tablet_of("half sun", [(1, 1), (2, 1)], "01;3? ??,07;30", "?3;00 0?,1?;?1")]
        for tablet in tablets:
            many = 60 if len(tablet.names()) == 2 else 20
            for row in (-40, -3, 0, 2, 7, 41):
                if wrong(tablet, TABLE, row=row) is not None:
                    self.assertEqual(guard(tablet, TABLE, row=row), guarded(tablet, TABLE, row, many))

    def test_rows_far_off(self):
        with soon():
            for row in (FAR, -FAR):
                self.assertEqual(guard(BOTH, TABLE, row=row), guarded(BOTH, TABLE, row, 60))

    def test_which_refusal_comes_first(self):
        with self.assertRaises(TooMany):
            guard(halves("05"), TABLE, row=1, most=19)
        with self.assertRaises(NoReturn):
            guard(tablet_of("way half", [(1, 0)] * 2, "05 05"), TABLE, row=1)
        with self.assertRaises(NoColumn):
            guard(tablet_of("half new", [(1, 0)] * 2, "05 05"), TABLE, row=1, most=19)

    def test_at_most_so_many_figures_put_otherwise(self):
        whole = cut_out(TABLE, names=["moon", "sun"], forms=FORMS, first=7, many=4)
        many, _ = guard(whole, TABLE, row=7)
        self.assertGreater(many, 0)
        rows = stands(whole, TABLE)
        places = [(row, name, at) for row in range(4) for name, at in (("moon", 1), ("sun", 4), ("sun", 1), ("sun", 6))]
        for start in range(len(places) - many):
            changed = whole.rows()
            some = places[start:start + many]
            for row, name, at in some:
                cell = changed[row][0 if name == "moon" else 1]
                other = cell[:at] + ("1" if cell[at] != "1" else "2") + cell[at + 1:]
                changed[row][0 if name == "moon" else 1] = other
            tablet = Tablet(names=["moon", "sun"], forms=FORMS, rows=changed)
            self.assertEqual(least(tablet, TABLE), (many, rows))
            self.assertEqual(mended(tablet, TABLE, row=7)[0], whole)

    def test_how_it_is_handed_in(self):
        with self.assertRaises(TypeError):
            guard(BOTH, TABLE, 1)
        self.assertEqual(guard(most=20, row=1, table=TABLE, tablet=moons("03")), (0, 0))


class OfPointFour(unittest.TestCase):
    """Point 4: what is mended is of the rule, and asked again it's the same."""

    def test_what_is_mended_is_filled_as_the_table_tells(self):
        for row in range(-9, 30):
            told, _ = mended(tablet_of("moon sun", FORMS, "59 5?,?9;5?"), TABLE, row=row)
            self.assertEqual(filled(told, TABLE, row=row),
                             cut_out(TABLE, names=["moon", "sun"], forms=FORMS, first=row))

    def test_again(self):
        for _ in range(2):
            self.assertEqual(least(moons("13"), TABLE), (1, [1, 10, 19]))
            self.assertEqual(wrong(moons("13"), TABLE, row=1), 1)
            self.assertEqual(guard(moons("13"), TABLE, row=1), (0, 0))


if __name__ == "__main__":
    unittest.main()
