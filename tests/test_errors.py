"""The refusals of points 18 and 19, as the interface lists them."""

import copy
import inspect
import unittest

from feastfall import errors

WITH_A_TEXT = ("NoDay", "NoYear", "BadYear", "BadDay", "BadFeast", "Taken", "NoFeast", "NoOrder", "NoBack",
               "NoForth", "NoStand")
ALL_TWELVE = WITH_A_TEXT + ("Sealed",)


def named(name):
    return getattr(errors, name)


def make(name):
    return errors.Sealed(12, 3, 40) if name == "Sealed" else named(name)("a text")


class Classes(unittest.TestCase):
    def test_any_refusal_is_a_value_error(self):
        self.assertTrue(issubclass(errors.FeastError, ValueError))
        with self.assertRaises(ValueError):
            raise errors.FeastError("a text")

    def test_the_twelve_stand_under_feast_error(self):
        self.assertEqual(len(set(ALL_TWELVE)), 12)
        for name in ALL_TWELVE:
            with self.subTest(name=name):
                self.assertTrue(inspect.isclass(named(name)))
                self.assertEqual(named(name).__name__, name)
                self.assertTrue(issubclass(named(name), errors.FeastError))
                self.assertIsNot(named(name), errors.FeastError)

    def test_none_of_the_twelve_stands_under_another_one(self):
        for one in ALL_TWELVE:
            for other in ALL_TWELVE:
                with self.subTest(one=one, other=other):
                    self.assertEqual(issubclass(named(one), named(other)), one == other)

    def test_there_are_no_other_classes(self):
        found = [name for name, kind in vars(errors).items() if inspect.isclass(kind)]
        self.assertEqual(sorted(found), sorted(ALL_TWELVE + ("FeastError",)))


class Making(unittest.TestCase):
    def test_each_other_one_is_made_with_one_text(self):
        for name in WITH_A_TEXT + ("FeastError",):
            for text in ("a text", ""):
                with self.subTest(name=name, text=text):
                    self.assertEqual(str(named(name)(text)), text)

    def test_each_is_raised_and_caught_by_its_own_name_alone(self):
        for name in ALL_TWELVE:
            for other in ALL_TWELVE:
                with self.subTest(name=name, other=other):
                    self.assertEqual(self.caught_by(name, other), name == other)

    def caught_by(self, name, other):
        try:
            raise make(name)
        except named(other):
            return True
        except errors.FeastError:
            return False


class SealedFields(unittest.TestCase):
    def fields(self, error):
        return (error.number, error.year, error.day)

    def test_number_year_and_day_are_its_fields(self):
        for parts in ((12, 3, 40), (0, 0, 0), (999999, 11, 4799), (5, 5, 6)):
            with self.subTest(parts=parts):
                self.assertEqual(self.fields(errors.Sealed(*parts)), parts)

    def test_the_fields_are_made_by_their_names_too(self):
        self.assertEqual(self.fields(errors.Sealed(day=40, year=3, number=12)), (12, 3, 40))

    def test_the_fields_belong_to_the_object(self):
        one = errors.Sealed(1, 2, 3)
        other = errors.Sealed(4, 5, 6)
        self.assertEqual(vars(one), {"number": 1, "year": 2, "day": 3})
        self.assertEqual(vars(other), {"number": 4, "year": 5, "day": 6})

    def test_the_fields_are_there_where_it_is_caught(self):
        with self.assertRaises(errors.FeastError) as caught:
            raise errors.Sealed(7, 8, 9)
        self.assertEqual(self.fields(caught.exception), (7, 8, 9))

    def test_a_copy_has_the_same_fields(self):
        self.assertEqual(self.fields(copy.copy(errors.Sealed(7, 8, 9))), (7, 8, 9))

    def test_it_is_not_made_without_all_three(self):
        for parts in ((), (1,), (1, 2)):
            with self.subTest(parts=parts), self.assertRaises(TypeError):
                errors.Sealed(*parts)


if __name__ == "__main__":
    unittest.main()
