"""The refusals, and what point 2 says of them."""

import unittest

from tabletsky import errors
from tabletsky.errors import SkyError

WITHOUT_FIELD = (
    "NoWorth", "NoFit", "NoReturn", "TooMany", "Nowhere", "NoMatch",
    "NoMonth", "NoDay", "NoDark", "NoLine", "NoDeed", "Busy",
)
FIELDS = {
    "NoText": ("at",),
    "NoRule": ("why",),
    "NoColumn": ("name",),
    "NoTablet": ("why",),
    "Barred": ("row", "name"),
    "Clash": ("row", "name", "sign"),
    "NoThing": ("name",),
}


class TheClasses(unittest.TestCase):
    def test_the_base_stands_right_under_value_error(self):
        self.assertEqual(SkyError.__bases__, (ValueError,))

    def test_each_refusal_stands_right_under_the_base(self):
        for name in (*WITHOUT_FIELD, *FIELDS):
            with self.subTest(name=name):
                self.assertEqual(getattr(errors, name).__bases__, (SkyError,))

    def test_none_stands_under_another_one(self):
        made = [getattr(errors, name) for name in (*WITHOUT_FIELD, *FIELDS)]
        for one in made:
            under = [other for other in made if issubclass(one, other)]
            self.assertEqual(under, [one])

    def test_each_is_defined_here(self):
        for name in ("SkyError", *WITHOUT_FIELD, *FIELDS):
            self.assertEqual(getattr(errors, name).__module__, "tabletsky.errors")
            self.assertEqual(getattr(errors, name).__name__, name)


class HowTheyAreMade(unittest.TestCase):
    def test_without_a_field_of_nothing_or_a_text(self):
        for name in WITHOUT_FIELD:
            with self.subTest(name=name):
                made = getattr(errors, name)
                for refusal in (made(), made("a text")):
                    with self.assertRaises(SkyError) as caught:
                        raise refusal
                    self.assertIs(caught.exception, refusal)

    def test_fields_by_place(self):
        for name, fields in FIELDS.items():
            with self.subTest(name=name):
                values = [object() for _ in fields]
                refusal = getattr(errors, name)(*values)
                for field, value in zip(fields, values):
                    self.assertIs(getattr(refusal, field), value)

    def test_fields_by_name(self):
        for name, fields in FIELDS.items():
            with self.subTest(name=name):
                values = {field: object() for field in fields}
                refusal = getattr(errors, name)(**values)
                for field in fields:
                    self.assertIs(getattr(refusal, field), values[field])

    def test_fields_of_all_kinds(self):
        self.assertIsNone(errors.NoText(None).at)
        self.assertEqual(errors.NoText(3).at, 3)
        self.assertEqual(errors.NoRule("low").why, "low")
        self.assertEqual(errors.NoTablet((2, None)).why, (2, None))
        self.assertEqual(errors.NoColumn(["a"]).name, ["a"])

    def test_two_refusals_have_fields_of_their_own(self):
        one, other = errors.Barred(1, "a"), errors.Barred(2, "b")
        self.assertEqual((one.row, one.name, other.row, other.name), (1, "a", 2, "b"))

    def test_with_fields_they_are_raised_and_caught_by_the_base(self):
        with self.assertRaises(SkyError) as caught:
            raise errors.Clash(4, "moon", 1)
        refusal = caught.exception
        self.assertEqual((refusal.row, refusal.name, refusal.sign), (4, "moon", 1))


if __name__ == "__main__":
    unittest.main()
