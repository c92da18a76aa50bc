"""Tests of the errors that calls raise, and of their fields."""

import inspect
import unittest

from snapdigits.errors import InvalidArchive, InvalidBound, InvalidNumber, InvalidTime, LimitExceeded


class RaisingCase(unittest.TestCase):

    def raised(self, error, call, *arguments, **named):
        with self.assertRaises(error) as caught:
            call(*arguments, **named)
        return caught.exception

    def assert_number(self, value, call, *arguments, **named):
        self.assertIs(self.raised(InvalidNumber, call, *arguments, **named).number, value)

    def assert_time(self, value, call, *arguments, **named):
        self.assertIs(self.raised(InvalidTime, call, *arguments, **named).time, value)

    def assert_bound(self, part, call, *arguments, **named):
        self.assertEqual(self.raised(InvalidBound, call, *arguments, **named).part, part)

    def assert_limit(self, limit, call, *arguments, **named):
        self.assertEqual(self.raised(LimitExceeded, call, *arguments, **named).limit, limit)

    def assert_archive(self, part, at, call, *arguments, **named):
        error = self.raised(InvalidArchive, call, *arguments, **named)
        self.assertEqual((error.part, error.at), (part, at))

    def assert_parameters(self, call, expected):
        self.assertEqual(list(inspect.signature(call).parameters), expected, call)
