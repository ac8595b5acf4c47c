"""Points 24 to 26: pieces; points 2, 3 and 4 as they hold for these."""

import unittest
from itertools import permutations, product

from helpers import FAR, ODD_THINGS, counted, soon, tablet_of
from tabletsky.errors import Clash, NoColumn, NoMatch, NoReturn, NoTablet, TooMany
from tabletsky.lines import Line
from tabletsky.pieces import joined, joined_all, laid, shifts, together, torn
from tabletsky.tables import Table
from tabletsky.tablets import Tablet, bars, broken, cut_out, stands
from tabletsky.zones import Zones

# The moon comes again behind 20 rows, the sun behind 12.
MOON = Line(low=(0, 1), high=(10, 1), step=(3, 1), at=(0, 1))
SUN = Zones(ring=(90, 1), borders=[(0, 1), (30, 1)], steps=[(15, 2), (15, 2)], at=(0, 1))
TABLE = Table([("moon", MOON), ("sun", SUN), ("way", ("along", "moon", (1, 1))), ("day", counted(50))])
LONG = Table([("day", counted(5000)), ("far", counted(5001)), ("on", ("along", "far", (0, 1)))])
FORMS = [(1, 0), (2, 1)]


def moons(*cells):
    return tablet_of("moon", [(1, 0)], *cells)


def days(*cells):
    return tablet_of("day", [(1, 0)], *cells)


def long_days(*cells):
    return tablet_of("day", [(2, 0)], *cells)


BLANK = days("??")


class OfTorn(unittest.TestCase):
    """Point 24."""

    TABLET = tablet_of("moon sun", FORMS, "05 01,09;30", "?0 00,5?;??", "?? ??,??;??", "09 00,00;00")

    def test_rows_of_a_tablet(self):
        self.assertEqual(torn(self.TABLET, first=0, many=1), tablet_of("moon sun", FORMS, "05 01,09;30"))
        self.assertEqual(torn(self.TABLET, first=1, many=2),
                         tablet_of("moon sun", FORMS, "?0 00,5?;??", "?? ??,??;??"))
        self.assertEqual(torn(self.TABLET, first=3, many=1), tablet_of("moon sun", FORMS, "09 00,00;00"))
        self.assertEqual(torn(self.TABLET, first=0, many=4), self.TABLET)

    def test_all_rows_that_are_there_and_those_just_beyond(self):
        rows = self.TABLET.rows()
        for first, many in product(range(-3, 7), repeat=2):
            with self.subTest(first=first, many=many):
                if first >= 0 and many >= 1 and first + many <= 4:
                    self.assertEqual(torn(self.TABLET, first=first, many=many).rows(), rows[first:first + many])
                else:
                    with self.assertRaises(NoTablet) as caught:
                        torn(self.TABLET, first=first, many=many)
                    self.assertEqual(caught.exception.why, "rows")

    def test_what_is_no_whole_number(self):
        for thing in (None, True, False, "1", b"1", [1], (1,), {}, (1, 1), object()):
            for told in ({"first": thing, "many": 1}, {"first": 1, "many": thing}):
                with self.subTest(told=told), self.assertRaises(NoTablet) as caught:
                    torn(self.TABLET, **told)
                self.assertEqual(caught.exception.why, "rows")

    def test_rows_far_off(self):
        for first, many in ((FAR, 1), (-FAR, 1), (0, FAR), (0, -FAR), (1, FAR), (-FAR, FAR)):
            with self.assertRaises(NoTablet):
                torn(self.TABLET, first=first, many=many)

    def test_sixty_rows(self):
        tablet = moons(*[f"{row:02}" for row in range(60)])
        self.assertEqual(torn(tablet, first=59, many=1), moons("59"))
        self.assertEqual(torn(tablet, first=0, many=60), tablet)
        with self.assertRaises(NoTablet):
            torn(tablet, first=1, many=60)

    def test_the_tablet_stays_as_it_was(self):
        tablet = moons("01", "02")
        told = torn(tablet, first=0, many=2)
        self.assertIsNot(told, tablet)
        told.rows()[0][0] = "59"
        self.assertEqual((told, tablet), (moons("01", "02"), moons("01", "02")))

    def test_how_it_is_handed_in(self):
        with self.assertRaises(TypeError):
            torn(self.TABLET, 0, 1)
        self.assertEqual(torn(many=1, first=3, tablet=self.TABLET).rows(), [["09", "00,00;00"]])


class OfJoined(unittest.TestCase):
    """Point 25."""

    def clash(self, pieces):
        with self.assertRaises(Clash) as caught:
            joined_all(pieces)
        return (caught.exception.row, caught.exception.name, caught.exception.sign)

    def test_one_piece(self):
        for at in (0, 5, -5, FAR, -FAR):
            self.assertEqual(joined_all([(moons("01", "?2"), at)]), moons("01", "?2"))

    def test_pieces_that_overlap(self):
        self.assertEqual(joined(moons("01", "?2"), moons("0?", "03"), shift=1), moons("01", "02", "03"))
        self.assertEqual(joined(moons("0?", "?2"), moons("?1", "1?"), shift=0), moons("01", "12"))
        self.assertEqual(joined(moons("??", "??"), moons("??"), shift=1), moons("??", "??"))

    def test_pieces_that_touch(self):
        self.assertEqual(joined(moons("01"), moons("02", "03"), shift=1), moons("01", "02", "03"))
        self.assertEqual(joined(moons("01"), moons("02", "03"), shift=-2), moons("02", "03", "01"))

    def test_pieces_that_lie_apart(self):
        self.assertEqual(joined(moons("01"), moons("02"), shift=3), moons("01", "??", "??", "02"))
        one, other = tablet_of("moon sun", FORMS, "05 01,09;30"), tablet_of("moon sun", FORMS, "0? ?1,09;3?")
        self.assertEqual(joined(one, other, shift=-2),
                         tablet_of("moon sun", FORMS, "0? ?1,09;3?", "?? ??,??;??", "05 01,09;30"))

    def test_one_piece_within_another_one(self):
        self.assertEqual(joined(moons("0?", "??", "03"), moons("02"), shift=1), moons("0?", "02", "03"))
        self.assertEqual(joined(moons("02"), moons("0?", "??", "03"), shift=-1), moons("0?", "02", "03"))

    def test_all_forms_keep_their_commas(self):
        for wholes, parts in product((1, 2, 8), (0, 1, 8)):
            cell = ",".join(["1?"] * wholes) + (";" + ",".join(["1?"] * parts) if parts else "")
            one = Tablet(names=["a"], forms=[(wholes, parts)], rows=[[cell]])
            other = Tablet(names=["a"], forms=[(wholes, parts)], rows=[[cell.replace("1?", "?2")]])
            self.assertEqual(joined(one, other, shift=0).rows(), [[cell.replace("?", "2")]])
            self.assertEqual(joined(one, other, shift=2).rows()[1], [cell.replace("1", "?")])

    def test_by_the_words_of_the_document(self):
        one, other = moons("0?", "?2", "13"), moons("?1", "??", "1?")
        for shift in range(-5, 6):
            rows = []
            for row in range(min(0, shift), max(3, 3 + shift)):
                signs = ["?", "?"]
                for tablet, at in ((one, 0), (other, shift)):
                    if 0 <= row - at < 3:
                        cell = tablet.rows()[row - at][0]
                        signs = [mine if sign == "?" else sign for mine, sign in zip(signs, cell)]
                rows.append("".join(signs))
            clashes = [(row, sign) for row in range(3) for sign in (0, 1) if 0 <= row - shift < 3 and len(
                {one.rows()[row][0][sign], other.rows()[row - shift][0][sign], "?"}) == 3]
            with self.subTest(shift=shift):
                if clashes:
                    row, sign = clashes[0]
                    told = self.clash([(one, 0), (other, shift)])
                    self.assertEqual(told, (row - min(0, shift), "moon", sign))
                else:
                    self.assertEqual(joined(one, other, shift=shift), moons(*rows))

    def test_where_they_clash(self):
        one = tablet_of("moon sun", FORMS, "05 01,09;30", "?? 00,5?;??")
        self.assertEqual(self.clash([(one, 0), (tablet_of("moon sun", FORMS, "04 01,09;30"), 0)]), (0, "moon", 1))
        self.assertEqual(self.clash([(one, 0), (tablet_of("moon sun", FORMS, "15 11,09;30"), 0)]), (0, "moon", 0))
        self.assertEqual(self.clash([(one, 0), (tablet_of("moon sun", FORMS, "05 01,08;31"), 0)]), (0, "sun", 4))
        self.assertEqual(self.clash([(one, 0), (tablet_of("moon sun", FORMS, "?? ??,??;?1"), 0)]), (0, "sun", 7))
        self.assertEqual(self.clash([(one, 0), (tablet_of("moon sun", FORMS, "11 ??,3?;11"), 1)]), (1, "sun", 3))

    def test_the_row_of_the_clash_is_of_the_one_tablet(self):
        one, other = moons("??", "??", "05"), moons("06", "??")
        self.assertEqual(self.clash([(one, 0), (other, 2)]), (2, "moon", 1))
        self.assertEqual(self.clash([(one, FAR), (other, FAR + 2)]), (2, "moon", 1))
        self.assertEqual(self.clash([(one, -FAR), (moons("??", "??", "??", "16"), -FAR - 1)]), (3, "moon", 0))

    def test_the_first_clash_by_rows_then_columns_then_signs(self):
        one = tablet_of("moon sun", FORMS, "?? ??,??;11", "11 11,11;11")
        other = tablet_of("moon sun", FORMS, "?? ??,??;12", "22 22,22;22")
        self.assertEqual(self.clash([(one, 0), (other, 0)]), (0, "sun", 7))
        one = tablet_of("moon sun", FORMS, "1? ??,??;11", "11 11,11;11")
        third = tablet_of("moon sun", FORMS, "2? ??,??;??")
        for pieces in permutations([(one, 0), (other, 0), (third, 0)]):
            self.assertEqual(self.clash(list(pieces)), (0, "moon", 0))

    def test_in_any_order(self):
        pieces = [(moons("0?", "??", "1?"), 0), (moons("?1"), 0), (moons("??", "?2"), 1), (moons("05", "??"), 4)]
        for some in permutations(pieces):
            self.assertEqual(joined_all(list(some)), moons("01", "??", "12", "??", "05", "??"))
        pieces = [(moons("0?", "?3", "1?"), 0), (moons("?1", "?4"), 0), (moons("??", "?2"), 0), (moons("?2"), 0)]
        for some in permutations(pieces):
            self.assertEqual(self.clash(list(some)), (0, "moon", 1))

    def test_one_piece_and_twelve(self):
        pieces = [(moons(f"{at:02}"), at) for at in range(12)]
        self.assertEqual(joined_all(pieces), moons(*[f"{at:02}" for at in range(12)]))
        self.assertEqual(joined_all([(moons("0?"), 7)] * 12), moons("0?"))

    def test_what_are_no_pieces(self):
        piece = (moons("01"), 0)
        for pieces in (*ODD_THINGS, [], [piece] * 13, (piece, piece), {0: piece}, moons("01"), piece):
            with self.subTest(pieces=pieces), self.assertRaises(TooMany):
                joined_all(pieces)

    def test_pieces_that_do_not_match(self):
        one = tablet_of("moon sun", FORMS, "05 01,09;30")
        for other in (tablet_of("sun moon", [(2, 1), (1, 0)], "01,09;30 05"), moons("05"),
                      tablet_of("moon sun", [(1, 0), (2, 0)], "05 01,09"),
                      tablet_of("moon day", FORMS, "05 01,09;30"),
                      tablet_of("moon sun day", FORMS + [(1, 0)], "05 01,09;30 05")):
            for pieces in ([(one, 0), (other, 0)], [(other, 9), (one, 0)], [(one, 0), (one, 1), (other, 2)]):
                with self.assertRaises(NoMatch):
                    joined_all(pieces)
            with self.assertRaises(NoMatch):
                joined(one, other, shift=5)

    def test_sixty_rows_and_sixty_one(self):
        self.assertEqual(len(joined(moons("01"), moons("02"), shift=59)), 60)
        self.assertEqual(joined(moons("01"), moons("02"), shift=-59).rows()[59], ["01"])
        self.assertEqual(len(joined(moons("01"), moons("02", "03"), shift=58)), 60)
        for one, other, shift in ((moons("01"), moons("02"), 60), (moons("01"), moons("02"), -60),
                                  (moons("01"), moons("02", "03"), 59), (moons("01", "02"), moons("03"), -59),
                                  (moons("01"), moons("02"), FAR), (moons("01"), moons("02"), -FAR)):
            with self.assertRaises(TooMany):
                joined(one, other, shift=shift)

    def test_which_refusal_comes_first(self):
        other = tablet_of("sun", [(1, 0)], "06")
        with self.assertRaises(TooMany):
            joined_all([(moons("05"), 0), (other, 0)] * 7)
        with self.assertRaises(NoMatch):
            joined(moons("05"), other, shift=100)
        with self.assertRaises(TooMany):
            joined_all([(moons("05"), 0), (moons("06"), 0), (moons("07"), 60)])

    def test_what_was_handed_in_stays_as_it_was(self):
        one, other = moons("0?", "05"), moons("01")
        pieces = [(one, 0), (other, 0)]
        told = joined_all(pieces)
        self.assertEqual(pieces, [(moons("0?", "05"), 0), (moons("01"), 0)])
        pieces.clear()
        self.assertEqual((told, one, other), (moons("01", "05"), moons("0?", "05"), moons("01")))

    def test_how_it_is_handed_in(self):
        with self.assertRaises(TypeError):
            joined(moons("01"), moons("02"), 1)
        self.assertEqual(joined(shift=1, other=moons("02"), one=moons("01")), moons("01", "02"))
        self.assertEqual(joined_all(pieces=[(moons("02"), 1)]), moons("02"))


class OfLaying(unittest.TestCase):
    """Point 26."""

    def test_together(self):
        # The moon is at 0, 3, 6, 9, 8, 5, 2, 1, 4, 7, 10 and so on.
        self.assertEqual(together(moons("03"), moons("06"), TABLE, shift=1), [1])
        self.assertEqual(together(moons("03"), moons("06"), TABLE, shift=-1), [19])
        self.assertEqual(together(moons("03"), moons("06"), TABLE, shift=0), [])
        self.assertEqual(together(moons("03"), moons("03"), TABLE, shift=0), [1, 19])
        self.assertEqual(together(moons("0?"), moons("10"), TABLE, shift=1), [9])

    def test_together_by_the_words_of_the_document(self):
        pieces = [moons("0?"), moons("03", "??"), moons("??", "0?", "?5"), moons("10"), moons("59"), moons("??")]
        for one, other in product(pieces, repeat=2):
            for shift in (*range(-25, 26), FAR, -FAR):
                rows = [row for row in range(20) if bars(one, TABLE, row=row) is None
                        and bars(other, TABLE, row=row + shift) is None]
                self.assertEqual(together(one, other, TABLE, shift=shift), rows)

    def test_together_of_several_columns(self):
        one = tablet_of("moon sun", FORMS, "0? ??,?7;30")
        other = tablet_of("moon sun", FORMS, "?? 00,??;?0", "0? ??,??;??")
        for shift in (-61, -1, 0, 1, 7, 60):
            rows = [row for row in range(60) if bars(one, TABLE, row=row) is None
                    and bars(other, TABLE, row=row + shift) is None]
            self.assertEqual(together(one, other, TABLE, shift=shift), rows)
            self.assertEqual(together(one, other, TABLE, shift=shift, most=60), rows)

    def test_shifts(self):
        self.assertEqual(shifts(moons("03"), moons("06"), TABLE, farthest=20), [-19, -17, -3, -1, 1, 3, 17, 19])
        self.assertEqual(shifts(moons("03"), moons("06"), TABLE, farthest=2), [-1, 1])
        self.assertEqual(shifts(moons("03"), moons("06"), TABLE, farthest=0), [])
        self.assertEqual(shifts(moons("03"), moons("03"), TABLE, farthest=0), [0])
        self.assertEqual(shifts(moons("59"), moons("03"), TABLE), [])
        self.assertEqual(shifts(moons("03"), moons("59"), TABLE), [])

    def test_shifts_by_the_words_of_the_document(self):
        pieces = [moons("0?"), moons("03", "??"), moons("??", "0?", "?5"), moons("10"), moons("59"), moons("??")]
        for one, other in product(pieces, repeat=2):
            for farthest in (0, 1, 7, 25):
                told = [shift for shift in range(-farthest, farthest + 1)
                        if together(one, other, TABLE, shift=shift)]
                self.assertEqual(shifts(one, other, TABLE, farthest=farthest), told)

    def test_how_far_shifts_go(self):
        self.assertEqual(shifts(BLANK, BLANK, TABLE), list(range(-59, 60)))
        self.assertEqual(laid([BLANK, BLANK], TABLE), [[shift] for shift in range(-59, 60)])
        for farthest in (0, 1, 59, 60, 1000):
            self.assertEqual(shifts(BLANK, BLANK, TABLE, farthest=farthest), list(range(-farthest, farthest + 1)))
        told = shifts(long_days("00,00"), long_days("16,40"), LONG, farthest=1000)
        self.assertEqual(told, [1000])
        self.assertEqual(shifts(long_days("16,40"), long_days("00,00"), LONG, farthest=1000), [-1000])
        self.assertEqual(shifts(long_days("00,00"), long_days("16,40"), LONG, farthest=999), [])
        # The last row of the return lies one ahead of the first one.
        one, other = tablet_of("day", [(3, 0)], "00,00,00"), tablet_of("day", [(3, 0)], "01,23,19")
        self.assertEqual(shifts(one, other, LONG, farthest=1), [-1])
        # Of two wholes the day of that row can't be shown: so not even a blank one can stand there.
        self.assertEqual(shifts(long_days("00,00"), long_days("??,??"), LONG, farthest=1), [0, 1])
        self.assertEqual(shifts(long_days("00,00"), long_days("00,59"), LONG), [59])
        self.assertEqual(shifts(long_days("00,00"), long_days("01,00"), LONG), [])

    def test_laid_of_two(self):
        for one, other in product((moons("03"), moons("0?"), moons("06", "09"), moons("59"), moons("??")), repeat=2):
            for farthest in (0, 3, 21):
                told = [[shift] for shift in shifts(one, other, TABLE, farthest=farthest)]
                self.assertEqual(laid([one, other], TABLE, farthest=farthest), told)

    def test_laid_by_the_words_of_the_document(self):
        pieces = [moons("03"), moons("0?", "0?"), moons("10"), moons("?5"), moons("59")]
        stand = {at: set(stands(piece, TABLE)) for at, piece in enumerate(pieces)}
        for one, other, third in product(range(5), repeat=3):
            for farthest in (1, 6):
                tried = range(-farthest, farthest + 1)
                ways = [[first, second] for first, second in product(tried, repeat=2) if any(
                    (row + first) % 20 in stand[other] and (row + second) % 20 in stand[third] for row in stand[one])]
                told = laid([pieces[one], pieces[other], pieces[third]], TABLE, farthest=farthest)
                self.assertEqual(told, ways)

    def test_laid_of_twelve(self):
        pieces = [days(f"{at:02}") for at in (7, 8, 6, 9, 5, 10, 4, 11, 3, 12, 2, 13)]
        self.assertEqual(laid(pieces, TABLE, farthest=10), [[1, -1, 2, -2, 3, -3, 4, -4, 5, -5, 6]])
        # The day comes again behind 50 rows, so each piece may lie a return farther ahead or behind, too.
        self.assertEqual(len(laid(pieces, TABLE, farthest=44)), 2)
        self.assertEqual(len(laid(pieces, TABLE, farthest=45)), 8)

    def test_pieces_that_can_stand_nowhere(self):
        nowhere = days("59")
        with soon():
            for pieces in ([nowhere] + [BLANK] * 11, [BLANK] * 11 + [nowhere], [BLANK, nowhere] + [BLANK] * 10):
                self.assertEqual(laid(pieces, TABLE, farthest=1000), [])
            # Each can stand, but not so near to the first one.
            pieces = [long_days("00,00")] + [long_days("00,??")] * 10 + [long_days("20,00")]
            self.assertEqual(laid(pieces, LONG, farthest=1000), [])

    def test_just_so_many_ways_as_may_be(self):
        self.assertEqual(len(laid([BLANK, BLANK], TABLE, farthest=999)), 1999)
        with self.assertRaises(TooMany):
            laid([BLANK, BLANK], TABLE, farthest=1000)
        # The first one stands at row 0; of up to 44 rows behind it 10, 10, 5 and 4 are such, of 45 one more.
        pieces = [long_days(cell) for cell in ("00,00", "00,0?", "00,0?", "00,?0", "00,?5")]
        told = laid(pieces, LONG, farthest=44)
        self.assertEqual(told, [list(way) for way in product(
            range(10), range(10), range(0, 41, 10), range(5, 36, 10))])
        self.assertEqual(len(told), 2000)
        with self.assertRaises(TooMany):
            laid(pieces, LONG, farthest=45)
        with self.assertRaises(TooMany):
            laid(pieces + [long_days("00,0?")] * 7, LONG, farthest=44)

    def test_more_or_fewer_pieces(self):
        for pieces in (*ODD_THINGS, [], [BLANK], [BLANK] * 13, (BLANK, BLANK), {0: BLANK, 1: BLANK}, BLANK):
            with self.subTest(pieces=pieces), self.assertRaises(TooMany):
                laid(pieces, TABLE)

    def asked(self, one, other, table=TABLE, **more):
        """All three ways to ask of two pieces."""
        return (lambda: together(one, other, table, shift=0, **more), lambda: shifts(one, other, table, **more),
                lambda: laid([one, other], table, **more))

    def test_pieces_that_do_not_match(self):
        one = tablet_of("moon sun", FORMS, "05 01,09;30")
        for other in (moons("05"), tablet_of("sun moon", [(2, 1), (1, 0)], "01,09;30 05"),
                      tablet_of("moon sun", [(1, 0), (2, 0)], "05 01,09")):
            for ask in self.asked(one, other):
                self.assertRaises(NoMatch, ask)
            self.assertRaises(NoMatch, laid, [one, one, other], TABLE)

    def test_a_column_that_the_table_has_not(self):
        tablet = tablet_of("moon new old", [(1, 0)] * 3, "05 05 05")
        for ask in self.asked(tablet, tablet):
            with self.assertRaises(NoColumn) as caught:
                ask()
            self.assertEqual(caught.exception.name, "new")

    def test_a_column_that_never_comes_again(self):
        tablet = tablet_of("moon way", FORMS, "05 01,09;30")
        for ask in self.asked(tablet, tablet):
            self.assertRaises(NoReturn, ask)

    def test_more_rows_than_may_be(self):
        self.assertEqual(together(long_days("00,07"), long_days("00,08"), LONG, shift=1), [7])
        self.assertEqual(together(long_days("00,07"), long_days("00,08"), LONG, shift=1, most=5000), [7])
        for ask in self.asked(long_days("00,07"), long_days("00,08"), LONG, most=4999):
            self.assertRaises(TooMany, ask)
        for ask in self.asked(moons("03"), moons("06"), most=20):
            ask()
        for ask in self.asked(moons("03"), moons("06"), most=19):
            self.assertRaises(TooMany, ask)
        far = tablet_of("far", [(2, 0)], "00,07")
        for ask in self.asked(far, far, LONG):
            self.assertRaises(TooMany, ask)

    def test_which_refusal_comes_first(self):
        far, on = tablet_of("far new", [(2, 0)] * 2, "00,07 00,07"), tablet_of("on", [(2, 0)], "00,07")
        with self.assertRaises(TooMany):
            laid([far] + [on] * 12, LONG)
        for ask in self.asked(far, on, LONG, most=1):
            self.assertRaises(NoMatch, ask)
        for ask in self.asked(far, far, LONG, most=1):
            self.assertRaises(NoColumn, ask)
        # Of on the sum of more than 5,000 rows would be needed; of way it is told that it never comes again.
        for ask in self.asked(on, on, LONG):
            self.assertRaises(TooMany, ask)
        way = tablet_of("way", [(2, 0)], "00,07")
        for ask in self.asked(way, way, most=1):
            self.assertRaises(NoReturn, ask)
        with self.assertRaises(NoReturn):
            laid([tablet_of("way", [(2, 0)], "??,??")] * 12, TABLE, farthest=1000)

    def test_what_was_handed_in_or_told(self):
        pieces = [moons("03"), moons("06")]
        told = laid(pieces, TABLE, farthest=3)
        self.assertEqual(pieces, [moons("03"), moons("06")])
        again = laid(pieces, TABLE, farthest=3)
        told[0].append("new")
        told.pop()
        self.assertEqual(again, [[-3], [-1], [1], [3]])
        self.assertIsNot(shifts(*pieces, TABLE), shifts(*pieces, TABLE))

    def test_how_it_is_handed_in(self):
        one, other = moons("03"), moons("06")
        for wrong in (lambda: together(one, other, TABLE, 1), lambda: shifts(one, other, TABLE, 1),
                      lambda: laid([one, other], TABLE, 1)):
            self.assertRaises(TypeError, wrong)
        self.assertEqual(together(most=20, shift=1, table=TABLE, other=other, one=one), [1])
        self.assertEqual(shifts(most=20, farthest=1, table=TABLE, other=other, one=one), [-1, 1])
        self.assertEqual(laid(most=20, farthest=1, table=TABLE, pieces=[one, other]), [[-1], [1]])


class OfPointFour(unittest.TestCase):
    """Points 4 and 26: what is joined is of the rule."""

    def test_what_is_torn_and_joined_again(self):
        whole = cut_out(TABLE, names=["moon", "sun"], forms=FORMS, first=-7, many=12)
        for at in range(1, 12):
            one, other = torn(whole, first=0, many=at), torn(whole, first=at, many=12 - at)
            self.assertEqual(joined(one, other, shift=at), whole)
            self.assertEqual(joined(other, one, shift=-at), whole)
            self.assertIn(53, together(one, other, TABLE, shift=at))

    def test_a_shift_by_which_pieces_clash_is_never_told(self):
        one, other = moons("0?", "?3", "??"), moons("03", "0?")
        for shift in range(-5, 6):
            try:
                whole = joined(one, other, shift=shift)
            except Clash:
                self.assertNotIn(shift, shifts(one, other, TABLE))
                continue
            rows = together(one, other, TABLE, shift=shift)
            self.assertEqual(rows, [(row - min(0, shift)) % 20 for row in stands(whole, TABLE)]
                             if shift >= 0 else sorted((row - shift) % 20 for row in stands(whole, TABLE)))

    def test_what_is_joined_of_all_stands_there(self):
        whole = cut_out(TABLE, names=["moon", "sun"], forms=FORMS, first=3, many=9)
        pieces = [broken(torn(whole, first=first, many=many), places=[(0, "moon", 1), (0, "sun", 4)])
                  for first, many in ((0, 3), (2, 4), (5, 4))]
        ways = laid(pieces, TABLE, farthest=9)
        self.assertIn([2, 5], ways)
        for way in ways:
            told = joined_all([(piece, at) for piece, at in zip(pieces, [0] + way)])
            ahead = min(0, *way)
            rows = [row for row in together(pieces[0], pieces[1], TABLE, shift=way[0])
                    if row in together(pieces[0], pieces[2], TABLE, shift=way[1])]
            self.assertTrue(rows)
            for row in rows:
                self.assertIsNone(bars(told, TABLE, row=row + ahead))


if __name__ == "__main__":
    unittest.main()
