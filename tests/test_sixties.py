"""Points 5, 6 and 7: worths by sixties; points 2 and 3 as they hold for these."""

import unittest
from fractions import Fraction

from helpers import fraction_of, worth_of
from tabletsky.errors import NoFit, NoText, NoWorth
from tabletsky.sixties import is_less, is_worth, minus, over, plus, read, show, times, worth

HUGE = 10 ** 5000
NO_WHOLES = (True, False, None, "1", b"1", [], [1], {}, (1, 2), (), object())
NO_WORTHS = (
    (2, 4), (0, 2), (-3, 9), (1, 0), (0, 0), (1, -2), (-1, -2), (0, -1),
    (True, 1), (False, 1), (1, True), (True, True), (0, True),
    [1, 2], (1,), (1, 2, 3), (), [], {}, {1: 2}, None, True, False, 0, 1, 12,
    "12", "", "1/2", b"12", ("1", "2"), ("1", 2), (1, "2"), (None, 1), (1, None),
    ((1, 2), (1, 2)), ((1, 1), 1), object(),
)


def grid():
    """Worths of all signs, noughts among them, each once."""
    return sorted({worth_of(Fraction(top, bottom)) for top in range(-7, 8) for bottom in range(1, 7)})


class OfWorths(unittest.TestCase):
    """Point 5: worth and is_worth."""

    def test_in_lowest_terms(self):
        self.assertEqual(worth(1561, 8), (1561, 8))
        self.assertEqual(worth(2, 4), (1, 2))
        self.assertEqual(worth(12, 4), (3, 1))
        self.assertEqual(worth(4, 12), (1, 3))

    def test_the_bottom_is_one_where_it_is_not_told(self):
        for top in (-3, -1, 0, 1, 7):
            self.assertEqual(worth(top), (top, 1))

    def test_a_bottom_below_nought(self):
        self.assertEqual(worth(1, -2), (-1, 2))
        self.assertEqual(worth(-1, -2), (1, 2))
        self.assertEqual(worth(6, -4), (-3, 2))
        self.assertEqual(worth(-6, -4), (3, 2))
        self.assertEqual(worth(5, -1), (-5, 1))

    def test_a_top_below_nought(self):
        self.assertEqual(worth(-6, 4), (-3, 2))
        self.assertEqual(worth(-6, 3), (-2, 1))

    def test_nought_as_a_top(self):
        for bottom in (-7, -1, 1, 2, 60):
            self.assertEqual(worth(0, bottom), (0, 1))

    def test_as_fractions_are(self):
        for top in range(-30, 31):
            for bottom in (*range(-30, 0), *range(1, 31)):
                self.assertEqual(worth(top, bottom), worth_of(Fraction(top, bottom)))

    def test_nought_as_a_bottom_is_refused(self):
        for top in (-1, 0, 1, 60):
            with self.assertRaises(NoWorth):
                worth(top, 0)

    def test_what_is_no_whole_number_is_refused(self):
        for thing in NO_WHOLES:
            with self.subTest(thing=thing):
                with self.assertRaises(NoWorth):
                    worth(thing)
                with self.assertRaises(NoWorth):
                    worth(thing, 2)
                with self.assertRaises(NoWorth):
                    worth(1, thing)
                with self.assertRaises(NoWorth):
                    worth(thing, thing)

    def test_what_is_told_is_a_tuple_of_whole_numbers(self):
        for made in (worth(1), worth(0), worth(3, 3), worth(-2, 4), plus((1, 2), (1, 2)), over((1, 1), (1, 1))):
            self.assertIs(type(made), tuple)
            self.assertEqual([type(part) for part in made], [int, int])

    def test_of_any_size(self):
        self.assertEqual(worth(HUGE, HUGE * 2), (1, 2))
        self.assertEqual(worth(HUGE + 1, -HUGE), (-HUGE - 1, HUGE))
        self.assertIs(is_worth((HUGE + 1, HUGE)), True)
        self.assertIs(is_worth((HUGE + 2, HUGE)), False)

    def test_is_worth_of_worths(self):
        for thing in ((0, 1), (1, 1), (-1, 1), (1, 2), (-3, 2), (59, 60), (60, 59), (10 ** 12, 1), (1, 10 ** 12)):
            with self.subTest(thing=thing):
                self.assertIs(is_worth(thing), True)

    def test_is_worth_of_anything_else(self):
        for thing in NO_WORTHS:
            with self.subTest(thing=thing):
                self.assertIs(is_worth(thing), False)

    def test_is_worth_just_where_worth_tells_it_again(self):
        for top in range(-12, 13):
            for bottom in range(-12, 13):
                again = bottom != 0 and worth(top, bottom) == (top, bottom)
                self.assertIs(is_worth((top, bottom)), again)

    def test_by_name(self):
        self.assertEqual(worth(bottom=4, top=2), (1, 2))
        self.assertEqual(worth(top=2), (2, 1))
        self.assertIs(is_worth(thing=(1, 2)), True)


class OfReckoning(unittest.TestCase):
    """Point 5: plus, minus, times, over and is_less."""

    def test_as_fractions_are(self):
        for one in grid():
            for other in grid():
                left, right = fraction_of(one), fraction_of(other)
                self.assertEqual(plus(one, other), worth_of(left + right))
                self.assertEqual(minus(one, other), worth_of(left - right))
                self.assertEqual(times(one, other), worth_of(left * right))
                self.assertIs(is_less(one, other), left < right)
                if other[0] != 0:
                    self.assertEqual(over(one, other), worth_of(left / right))

    def test_over_by_nought_is_refused(self):
        for one in ((0, 1), (1, 1), (-1, 2)):
            with self.assertRaises(NoWorth):
                over(one, (0, 1))

    def test_over_by_a_worth_below_nought(self):
        self.assertEqual(over((1, 2), (-1, 3)), (-3, 2))
        self.assertEqual(over((-1, 2), (-1, 3)), (3, 2))
        self.assertEqual(over((0, 1), (-1, 3)), (0, 1))

    def test_a_worth_is_not_less_than_itself(self):
        self.assertIs(is_less((1, 3), (1, 3)), False)
        self.assertIs(is_less((1, 3), (1, 2)), True)
        self.assertIs(is_less((-1, 2), (-1, 3)), True)

    def test_of_any_size(self):
        self.assertEqual(plus((HUGE, 1), (1, HUGE)), (HUGE * HUGE + 1, HUGE))
        self.assertEqual(minus((HUGE, 1), (HUGE, 1)), (0, 1))
        self.assertEqual(times((HUGE, 1), (1, HUGE)), (1, 1))
        self.assertEqual(over((HUGE, 1), (HUGE, 1)), (1, 1))
        self.assertIs(is_less((HUGE, 1), (HUGE + 1, 1)), True)
        self.assertIs(is_less((HUGE + 1, HUGE), (1, 1)), False)

    def test_by_name(self):
        self.assertEqual(plus(other=(1, 3), one=(1, 2)), (5, 6))
        self.assertEqual(minus(other=(1, 3), one=(1, 2)), (1, 6))
        self.assertEqual(times(other=(1, 3), one=(1, 2)), (1, 6))
        self.assertEqual(over(other=(1, 3), one=(1, 2)), (3, 2))
        self.assertIs(is_less(other=(1, 3), one=(1, 2)), False)

    def test_asked_again_the_same_is_told(self):
        self.assertEqual([plus((1, 2), (1, 3)) for _ in range(3)], [(5, 6)] * 3)


class OfShowing(unittest.TestCase):
    """Point 6."""

    def test_the_worth_that_the_document_shows(self):
        self.assertEqual(show((1561, 8), wholes=2, parts=2), "03,15;07,30")

    def test_one_whole_and_no_parts_where_they_are_not_told(self):
        self.assertEqual(show((7, 1)), "07")
        self.assertEqual(show((7, 1), wholes=2), "00,07")
        self.assertEqual(show((15, 2), parts=1), "07;30")
        self.assertEqual(show((7, 1), parts=0), "07")

    def test_the_last_whole_is_ones_the_first_part_sixtieths(self):
        self.assertEqual(show((3600 * 2 + 60 * 3 + 4, 1), wholes=3), "02,03,04")
        self.assertEqual(show((60 ** 7, 1), wholes=8), "01,00,00,00,00,00,00,00")
        self.assertEqual(show((1, 60), parts=1), "00;01")
        self.assertEqual(show((1, 3600), parts=2), "00;00,01")
        self.assertEqual(show((1, 60 ** 8), parts=8), "00;00,00,00,00,00,00,00,01")
        self.assertEqual(show((1, 3), parts=3), "00;20,00,00")

    def test_all_forms_from_the_least_to_the_greatest(self):
        for wholes in range(1, 9):
            for parts in range(0, 9):
                with self.subTest(wholes=wholes, parts=parts):
                    self.check_form(wholes, parts)

    def check_form(self, wholes, parts):
        scale, end = 60 ** parts, 60 ** (wholes + parts)
        behind = ";" + ",".join(["{0}"] * parts) if parts else ""
        form = ",".join(["{0}"] * wholes) + behind
        self.assertEqual(show((0, 1), wholes=wholes, parts=parts), form.format("00"))
        self.assertEqual(show(worth(end - 1, scale), wholes=wholes, parts=parts), form.format("59"))
        with self.assertRaises(NoFit):
            show(worth(end, scale), wholes=wholes, parts=parts)
        with self.assertRaises(NoFit):
            show(worth(2 * end - 1, 2 * scale), wholes=wholes, parts=parts)
        with self.assertRaises(NoFit):
            show((1, 60 * scale), wholes=wholes, parts=parts)
        with self.assertRaises(NoFit):
            show((-1, scale), wholes=wholes, parts=parts)

    def test_a_worth_below_nought_does_not_fit(self):
        for thing in ((-1, 1), (-1, 2), (-59, 60), (-60, 1), (-HUGE, 1)):
            with self.assertRaises(NoFit):
                show(thing, wholes=2, parts=1)

    def test_a_worth_of_more_wholes_does_not_fit(self):
        self.assertEqual(show((59, 1)), "59")
        with self.assertRaises(NoFit):
            show((60, 1))
        self.assertEqual(show((3599, 1), wholes=2), "59,59")
        with self.assertRaises(NoFit):
            show((3600, 1), wholes=2)
        with self.assertRaises(NoFit):
            show((HUGE, 1), wholes=8, parts=8)

    def test_what_is_not_whole_parts_of_the_last_kind_does_not_fit(self):
        with self.assertRaises(NoFit):
            show((1, 2))
        self.assertEqual(show((1, 8), parts=2), "00;07,30")
        with self.assertRaises(NoFit):
            show((1, 8), parts=1)
        for thing in ((1, 7), (1, 60 ** 9), (1, 2 * 60 ** 8), (HUGE + 1, HUGE)):
            with self.assertRaises(NoFit):
                show(thing, parts=8)

    def test_what_is_no_worth_is_refused(self):
        for thing in NO_WORTHS:
            with self.subTest(thing=thing):
                with self.assertRaises(NoWorth):
                    show(thing, wholes=2, parts=2)

    def test_what_are_no_such_numbers_of_groups_is_refused(self):
        for wholes in (0, 9, -1, 60, HUGE, *NO_WHOLES):
            with self.subTest(wholes=wholes):
                with self.assertRaises(NoWorth):
                    show((1, 1), wholes=wholes)
        for parts in (-1, 9, 60, -HUGE, *NO_WHOLES):
            with self.subTest(parts=parts):
                with self.assertRaises(NoWorth):
                    show((1, 1), parts=parts)

    def test_no_worth_is_told_ahead_of_no_fit(self):
        for thing in ((-1, 1), (60 ** 9, 1), (1, 7)):
            for wholes, parts in ((0, 0), (9, 0), (1, -1), (1, 9), (True, 0), (1, False)):
                with self.subTest(thing=thing, wholes=wholes, parts=parts):
                    with self.assertRaises(NoWorth):
                        show(thing, wholes=wholes, parts=parts)

    def test_how_it_is_handed_in(self):
        self.assertEqual(show(parts=1, wholes=2, thing=(15, 2)), "00,07;30")
        with self.assertRaises(TypeError):
            show((1, 1), 1)

    def test_what_is_told_is_a_text(self):
        self.assertIs(type(show((1, 1))), str)


class OfReading(unittest.TestCase):
    """Point 7."""

    def refused_at(self, text):
        with self.assertRaises(NoText) as caught:
            read(text)
        return caught.exception.at

    def test_texts_are_read(self):
        self.assertEqual(read("03,15;07,30"), ((1561, 8), 2, 2))
        self.assertEqual(read("00"), ((0, 1), 1, 0))
        self.assertEqual(read("59"), ((59, 1), 1, 0))
        self.assertEqual(read("00,00;00"), ((0, 1), 2, 1))
        self.assertEqual(read("07;30"), ((15, 2), 1, 1))
        self.assertEqual(read("01,00"), ((60, 1), 2, 0))
        self.assertEqual(read("00;00,01"), ((1, 3600), 1, 2))

    def test_what_is_told_is_a_tuple(self):
        told = read("01;00")
        self.assertIs(type(told), tuple)
        self.assertIs(type(told[0]), tuple)
        self.assertEqual([type(part) for part in (*told[0], *told[1:])], [int] * 4)

    def test_each_text_that_show_can_tell(self):
        for wholes in range(1, 9):
            for parts in range(0, 9):
                end = 60 ** (wholes + parts)
                for units in {0, 1, 59, end // 2, end // 7, end - 1}:
                    thing = worth(units, 60 ** parts)
                    text = show(thing, wholes=wholes, parts=parts)
                    self.assertEqual(read(text), (thing, wholes, parts))

    def test_each_group(self):
        for number in range(60):
            self.assertEqual(read(f"{number:02d}"), ((number, 1), 1, 0))
            self.assertEqual(read(f"00;{number:02d}"), (worth(number, 60), 1, 1))

    def test_no_other_two_signs(self):
        signs = [chr(number) for number in range(32, 127)] + ["\n"]
        taken = []
        for group in [one + other for one in signs for other in signs]:
            try:
                read(group)
                taken.append(group)
            except NoText as refusal:
                self.assertEqual(refusal.at, 0)
        self.assertEqual(sorted(taken), [f"{number:02d}" for number in range(60)])

    def test_eight_wholes_and_eight_parts(self):
        text = ",".join(["59"] * 8) + ";" + ",".join(["59"] * 8)
        self.assertEqual(read(text), (worth(60 ** 16 - 1, 60 ** 8), 8, 8))

    def test_what_is_no_text(self):
        for thing in (None, True, False, 0, 1, 12, b"01", b"", ["01"], ("01",), (), [], {}, {"01": 1}, object()):
            with self.subTest(thing=thing):
                self.assertIsNone(self.refused_at(thing))

    def test_groups_of_other_signs_or_more_or_fewer(self):
        groups = (
            "", "0", "1", "001", "010", "0000", "60", "61", "70", "99", "100", "0a", "a0", "-1", "+1", "1-",
            " 1", "1 ", "  ", "01 ", " 01", "0.", ".0", "1_", "_1", "0:", ":0", "0/", "/0", "01\n", "\n01",
            "1\n", "\n1", "\n", "0x1", "??", "5?", "1e", "01.", "~~", "6;", "0 1",
        )
        for group in groups:
            with self.subTest(group=group):
                if ";" not in group:
                    self.assertEqual(self.refused_at(group), 0)
                    self.assertEqual(self.refused_at(group + ",01;02"), 0)
                    self.assertEqual(self.refused_at("01," + group), 1)
                    self.assertEqual(self.refused_at("01," + group + ";02"), 1)
                self.assertEqual(self.refused_at("01;" + group), 1)
                self.assertEqual(self.refused_at("01,02;03," + group + ",04"), 3)

    def test_nothing_between_two_marks(self):
        marks = {
            "": 0, ",": 0, ";": 0, ",01": 0, ";01": 0, "01,": 1, "01;": 1, "01,,02": 1, "01,;02": 1,
            "01;,02": 1, "01;02,": 2, "01;02,,03": 2, "01,02;": 2, "01,02;03,,": 3, ",,": 0, ",;,": 0,
        }
        for text, at in marks.items():
            with self.subTest(text=text):
                self.assertEqual(self.refused_at(text), at)

    def test_a_second_mark_of_parts(self):
        marks = {
            ";;": 0, "01;;": 1, "01;;02": 1, "01;02;": 1, "01;02;03": 1, "01,02;03;04": 2,
            "01;02,03;04": 2, "01;02;03,04": 1, "01;02,03,;04": 3,
        }
        for text, at in marks.items():
            with self.subTest(text=text):
                self.assertEqual(self.refused_at(text), at)

    def test_a_ninth_whole(self):
        nine = ",".join(["01"] * 9)
        for text in (nine, nine + ";01", nine + ";", nine + ";99", nine + ",01,01", nine[:-2], nine[:-2] + "99"):
            with self.subTest(text=text):
                self.assertEqual(self.refused_at(text), 8)

    def test_a_ninth_part(self):
        nine = ",".join(["01"] * 9)
        for wholes in range(1, 9):
            ahead = ",".join(["02"] * wholes) + ";"
            for behind in (nine, nine + ",01", nine[:-2], nine + ";01"):
                with self.subTest(text=ahead + behind):
                    self.assertEqual(self.refused_at(ahead + behind), wholes + 8)

    def test_the_first_one_is_told(self):
        self.assertEqual(self.refused_at("01,60,99;60"), 1)
        self.assertEqual(self.refused_at("01,02;60,99"), 2)
        self.assertEqual(self.refused_at("01,60;"), 1)
        self.assertEqual(self.refused_at("01,02,03,4,05,06,07,08,09;01"), 3)
        self.assertEqual(self.refused_at("01;01,02,03,04,05,06,07,8,09"), 8)
        self.assertEqual(self.refused_at("1;" + ",".join(["01"] * 9)), 0)

    def test_by_name(self):
        self.assertEqual(read(text="01"), ((1, 1), 1, 0))


if __name__ == "__main__":
    unittest.main()
