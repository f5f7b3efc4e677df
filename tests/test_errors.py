"""The interface of likedways/errors.py."""

import inspect
import unittest

from likedways import errors
from likedways.errors import Stopped, TooMany, Unsettled, WayError

PLAIN = (
    "NoGuild", "NoOrder", "NoRule", "NoLetter", "NoRoad", "Broken", "Whole", "NoHouse",
    "NoLikes", "NothingLeft", "NoDeed", "TooDeep", "NoText", "NoRow",
)
WITH_VALUES = ("TooMany", "Unsettled", "Stopped")


def class_named(name):
    return getattr(errors, name)


class TestFamily(unittest.TestCase):
    def test_way_error_is_a_value_error(self):
        self.assertEqual(WayError.__bases__, (ValueError,))

    def test_each_listed_class_is_there_and_under_way_error(self):
        for name in PLAIN + WITH_VALUES:
            with self.subTest(name):
                self.assertTrue(inspect.isclass(class_named(name)))
                self.assertTrue(issubclass(class_named(name), WayError))
                self.assertEqual(class_named(name).__name__, name)

    def test_none_stands_under_another_one(self):
        for name in PLAIN + WITH_VALUES:
            for other in PLAIN + WITH_VALUES:
                with self.subTest(name=name, other=other):
                    self.assertEqual(issubclass(class_named(name), class_named(other)), name == other)

    def test_way_error_stands_under_none_of_them(self):
        for name in PLAIN + WITH_VALUES:
            self.assertFalse(issubclass(WayError, class_named(name)))

    def test_plain_ones_are_raised_and_caught(self):
        for name in PLAIN:
            with self.subTest(name):
                with self.assertRaises(WayError) as caught:
                    raise class_named(name)("why")
                self.assertEqual(str(caught.exception), "why")
                self.assertIsInstance(class_named(name)(), class_named(name))


class TestValues(unittest.TestCase):
    def test_many(self):
        for name in ("TooMany", "Unsettled"):
            for many in (0, 1, 1000, 10 ** 39):
                with self.subTest(name=name, many=many):
                    with self.assertRaises(WayError) as caught:
                        raise class_named(name)(many)
                    self.assertIs(type(caught.exception), class_named(name))
                    self.assertEqual(caught.exception.many, many)

    def test_at_and_why(self):
        with self.assertRaises(WayError) as caught:
            raise Stopped(3, "NoLetter")
        self.assertIs(type(caught.exception), Stopped)
        self.assertEqual(caught.exception.at, 3)
        self.assertEqual(caught.exception.why, "NoLetter")

    def test_values_belong_to_each_object(self):
        one, other = TooMany(1), TooMany(2)
        self.assertEqual((one.many, other.many), (1, 2))
        one, other = Unsettled(1), Unsettled(2)
        self.assertEqual((one.many, other.many), (1, 2))
        one, other = Stopped(1, "a"), Stopped(2, "b")
        self.assertEqual((one.at, one.why, other.at, other.why), (1, "a", 2, "b"))

    def test_others_have_no_such_values(self):
        for name in PLAIN:
            for value in ("many", "at", "why"):
                self.assertFalse(hasattr(class_named(name)("x"), value))


if __name__ == "__main__":
    unittest.main()
