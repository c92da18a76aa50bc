"""Point 2: what an integer is."""

import unittest

from snapdigits.errors import InvalidNumber, InvalidTime
from snapdigits.wholes import (
    check_number, check_time, is_integer, is_integer_between, is_integer_from,
)

from samples import OwnInt, no_integers, no_numbers


class IsInteger(unittest.TestCase):

    def test_integers(self):
        for value in (0, 1, 2, -1, 1000, 10 ** 30, -10 ** 30, OwnInt(7)):
            self.assertIs(is_integer(value), True, value)

    def test_true_and_false_are_none(self):
        self.assertIs(is_integer(True), False)
        self.assertIs(is_integer(False), False)

    def test_other_objects(self):
        for value in no_integers():
            with self.subTest(kind=value.__class__):
                self.assertIs(is_integer(value), False)

    def test_by_name(self):
        self.assertIs(is_integer(value=5), True)
        self.assertIs(is_integer(value="5"), False)


class Ranges(unittest.TestCase):

    def test_from(self):
        answers = [is_integer_from(value, 2) for value in (1, 2, 3, 10 ** 30)]
        self.assertEqual(answers, [False, True, True, True])

    def test_between(self):
        answers = [is_integer_between(value, 2, 4) for value in (1, 2, 3, 4, 5)]
        self.assertEqual(answers, [False, True, True, True, False])

    def test_other_objects(self):
        for value in no_integers():
            with self.subTest(kind=value.__class__):
                self.assertIs(is_integer_from(value, 0), False)
                self.assertIs(is_integer_between(value, 0, 9), False)


class Checks(unittest.TestCase):

    def test_numbers_and_times_pass(self):
        for value in (0, 1, 10 ** 30):
            self.assertIsNone(check_number(value))
            self.assertIsNone(check_time(value))

    def test_others_do_not(self):
        for value in no_numbers():
            with self.subTest(kind=value.__class__):
                with self.assertRaises(InvalidNumber) as caught:
                    check_number(value)
                self.assertIs(caught.exception.number, value)
                with self.assertRaises(InvalidTime) as caught:
                    check_time(value)
                self.assertIs(caught.exception.time, value)


if __name__ == "__main__":
    unittest.main()
