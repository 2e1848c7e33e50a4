"""The interface's turnkin/errors.py."""

import unittest

from turnkin import errors

PLAIN = ["BadSize", "BadTurning", "BadNumber", "BadPlace", "BadText"]
FIELDS = [("BadFew", "place"), ("BadStep", "place"), ("NotIn", "level")]
ALL = PLAIN + [name for name, _ in FIELDS]


class ErrorClasses(unittest.TestCase):
    def test_house_error_is_straight_under_value_error(self):
        self.assertEqual(errors.HouseError.__bases__, (ValueError,))

    def test_each_is_straight_under_house_error_alone(self):
        for name in ALL:
            with self.subTest(name=name):
                self.assertEqual(getattr(errors, name).__bases__, (errors.HouseError,))

    def test_none_is_under_another_one(self):
        for name in ALL:
            for other in ALL:
                with self.subTest(name=name, other=other):
                    under = issubclass(getattr(errors, name), getattr(errors, other))
                    self.assertEqual(under, name == other)

    def test_there_are_no_others(self):
        found = [name for name, thing in vars(errors).items() if isinstance(thing, type)]
        self.assertEqual(sorted(found), sorted(["HouseError", *ALL]))

    def test_each_is_defined_in_this_file_under_its_name(self):
        for name in ["HouseError", *ALL]:
            with self.subTest(name=name):
                kind = getattr(errors, name)
                self.assertEqual((kind.__module__, kind.__name__), ("turnkin.errors", name))

    def test_each_is_caught_as_a_refusal_and_as_a_value_error(self):
        for name in ALL:
            made = getattr(errors, name)("why") if name in PLAIN else getattr(errors, name)(3)
            for kind in (errors.HouseError, ValueError):
                with self.subTest(name=name, kind=kind), self.assertRaises(kind):
                    raise made


class Fields(unittest.TestCase):
    def test_the_field_is_set_when_the_error_is_made(self):
        for name, field in FIELDS:
            for place in (0, 3, 40, 10 ** 60):
                with self.subTest(name=name, place=place):
                    made = getattr(errors, name)(place)
                    self.assertEqual(vars(made), {field: place})

    def test_the_field_may_be_handed_in_by_its_name(self):
        for name, field in FIELDS:
            with self.subTest(name=name):
                self.assertEqual(getattr(getattr(errors, name)(**{field: 7}), field), 7)

    def test_each_error_has_its_own_field(self):
        one, other = errors.BadFew(1), errors.BadFew(2)
        self.assertEqual((one.place, other.place), (1, 2))

    def test_each_tells_something(self):
        for name, _ in FIELDS:
            with self.subTest(name=name):
                self.assertTrue(str(getattr(errors, name)(3)))


if __name__ == "__main__":
    unittest.main()
