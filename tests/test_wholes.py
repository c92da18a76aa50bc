"""Point 2: what an integer is."""

import unittest

from snapdigits.wholes import (
    check_bound, check_number, check_time, is_integer, is_integer_between, is_integer_from,
)

from raising import RaisingCase
from samples import OwnInt, no_integers, no_numbers


class IsInteger(unittest.TestCase):

    def test_integers(self):
        for value in (0, 1, 2, -1, 1000, 10 ** 30, -10 ** 30, OwnInt(7)):
            self.assertIs(is_integer(value), True, value)

    def test_true_and_false_are_none(self):
        self.assertIs(is_integer(True), False)
        self.assertIs(is_integer(False), False)

    def test_other_objects(self):
        for value in no_integers():
            with self.subTest(kind=value.__class__):
                self.assertIs(is_integer(value), False)

    def test_by_name(self):
        self.assertIs(is_integer(value=5), True)
        self.assertIs(is_integer(value="5"), False)


class Ranges(unittest.TestCase):

    def test_from(self):
        answers = [is_integer_from(value, 2) for value in (1, 2, 3, 10 ** 30)]
        self.assertEqual(answers, [False, True, True, True])

    def test_between(self):
        answers = [is_integer_between(value, 2, 4) for value in (1, 2, 3, 4, 5)]
        self.assertEqual(answers, [False, True, True, True, False])

    def test_other_objects(self):
        for value in no_integers():
            with self.subTest(kind=value.__class__):
                self.assertIs(is_integer_from(value, 0), False)
                self.assertIs(is_integer_between(value, 0, 9), False)


class Checks(RaisingCase):

    def test_numbers_and_times_pass(self):
        for value in (0, 1, 10 ** 30):
            self.assertIsNone(check_number(value))
            self.assertIsNone(check_time(value))
            self.assertIsNone(check_bound(value, 0, "low"))

    def test_others_do_not(self):
        for value in no_numbers():
            with self.subTest(kind=value.__class__):
                self.assert_number(value, check_number, value)
                self.assert_time(value, check_time, value)
                self.assert_bound("low", check_bound, value, 0, "low")

    def test_the_least_bound(self):
        self.assertIsNone(check_bound(5, 5, "high"))
        self.assert_bound("high", check_bound, 4, 5, "high")


if __name__ == "__main__":
    unittest.main()
