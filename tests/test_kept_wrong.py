"""Points 2, 4 and 10 to 15: the interface of the module, and wrong inputs."""

import unittest

from snapdigits import kept
from snapdigits.schemes import Scheme

from raising import RaisingCase
from samples import OwnInt, no_numbers

PARAMETERS = {
    "count_kept": ["scheme", "time"],
    "kept_levels": ["scheme", "time"],
    "rank": ["scheme", "time", "number"],
    "kept_number": ["scheme", "time", "index"],
    "previous_kept": ["scheme", "time", "number"],
    "next_kept": ["scheme", "time", "number"],
    "kept_between": ["scheme", "time", "low", "high"],
    "dropped": ["scheme", "before", "after"],
    "changes": ["scheme", "before", "after"],
    "next_drop": ["scheme", "time"],
}
OF_A_NUMBER = (kept.rank, kept.previous_kept, kept.next_kept)
OF_TWO_TIMES = (kept.dropped, kept.changes)
S = Scheme(2, 2)


class Interface(RaisingCase):

    def test_parameters(self):
        for name, parameters in PARAMETERS.items():
            self.assert_parameters(getattr(kept, name), parameters)

    def test_arguments_by_name(self):
        self.assertEqual(kept.count_kept(time=10, scheme=S), 6)
        self.assertEqual(len(kept.kept_levels(time=10, scheme=S)), 4)
        self.assertEqual(kept.rank(number=7, time=10, scheme=S), 3)
        self.assertEqual(kept.kept_number(S, index=3, time=10), 8)
        self.assertEqual(kept.previous_kept(S, 10, number=7), 6)
        self.assertEqual(kept.next_kept(S, number=1, time=10), 4)
        self.assertEqual(kept.kept_between(S, high=9, low=5, time=10), [6, 8, 9])
        self.assertEqual(kept.dropped(S, after=13, before=10), [4, 6, 9])
        self.assertEqual(kept.changes(scheme=S, after=13, before=10), (3, 3))
        self.assertEqual(kept.next_drop(time=10, scheme=S), (11, [6]))

    def test_kinds_of_values(self):
        self.assertIsInstance(kept.kept_levels(S, 10)[0], tuple)
        self.assertIsInstance(kept.changes(S, 10, 13), tuple)
        self.assertIsInstance(kept.next_drop(S, 10), tuple)

    def test_equal_arguments_give_equal_results(self):
        for name, parameters in PARAMETERS.items():
            call = getattr(kept, name)
            arguments = [5, 8, 9][:len(parameters) - 1]
            arguments = [0 if part == "index" else value for part, value in zip(parameters[1:], arguments)]
            self.assertEqual(call(Scheme(10, 2), *arguments), call(Scheme(10, 2), *arguments), name)

    def test_an_int_of_a_subclass(self):
        self.assertEqual(kept.kept_number(S, OwnInt(10), OwnInt(3)), 8)
        self.assertEqual(kept.previous_kept(S, OwnInt(10), OwnInt(7)), 6)


class WrongTimes(RaisingCase):

    def test_the_time_comes_first(self):
        for value in no_numbers():
            with self.subTest(kind=value.__class__):
                for call in (kept.count_kept, kept.kept_levels, kept.next_drop):
                    self.assert_time(value, call, S, value)
                for call in (*OF_A_NUMBER, kept.kept_number):
                    for other in (0, -1, "x", [value]):
                        self.assert_time(value, call, S, value, other)
                for others in ((0, 5), (-1, 5), (5, 4), (None, None)):
                    self.assert_time(value, kept.kept_between, S, value, *others)

    def test_two_times(self):
        for value in no_numbers():
            with self.subTest(kind=value.__class__):
                for call in OF_TWO_TIMES:
                    for other in (0, 10, -1, None, [value]):
                        self.assert_time(value, call, S, value, other)
                    for before in (0, 10):
                        self.assert_time(value, call, S, before, value)
                        self.assert_time(value, call, S, after=value, before=before)

    def test_after_less_than_before(self):
        for call in OF_TWO_TIMES:
            for before, after in ((10, 9), (1, 0), (10 ** 29, 5), (5, -1)):
                self.assert_time(after, call, S, before, after)


class WrongNumbers(RaisingCase):

    def test_numbers(self):
        for value in no_numbers():
            for call in OF_A_NUMBER:
                for time in (0, 10, 10 ** 29):
                    with self.subTest(kind=value.__class__):
                        self.assert_number(value, call, S, time, value)

    def test_indexes(self):
        for value in no_numbers():
            with self.subTest(kind=value.__class__):
                self.assert_bound("index", kept.kept_number, S, 10, value)

    def test_indexes_at_the_count(self):
        for scheme in (S, Scheme(10, 1), Scheme(2, 10 ** 6)):
            for time in (0, 1, 10, 1000, 10 ** 29):
                count = kept.count_kept(scheme, time)
                self.assertEqual(kept.kept_number(scheme, time, count - 1), time)
                for index in (count, count + 1, 10 ** 29 + count):
                    self.assert_bound("index", kept.kept_number, scheme, time, index)

    def test_bounds(self):
        for value in no_numbers():
            with self.subTest(kind=value.__class__):
                for high in (0, 10, -1, None, value):
                    self.assert_bound("low", kept.kept_between, S, 10, value, high)
                self.assert_bound("high", kept.kept_between, S, 10, 0, value)
                self.assert_bound("high", kept.kept_between, S, 10, 10 ** 29, value)

    def test_high_below_low(self):
        self.assert_bound("high", kept.kept_between, S, 10, 5, 4)
        self.assert_bound("high", kept.kept_between, S, 10, 1, 0)
        self.assertEqual(kept.kept_between(S, 10, 4, 4), [4])

    def test_bounds_before_the_limit(self):
        self.assert_bound("high", kept.kept_between, Scheme(2, 2000), 2000, 0, "1000")

    def test_arguments_stay_as_they_are(self):
        for value in ([1, [2]], {"a": [1]}):
            shown = repr(value)
            self.assert_time(value, kept.count_kept, S, value)
            self.assert_number(value, kept.rank, S, 10, value)
            self.assert_bound("low", kept.kept_between, S, 10, value, value)
            self.assertEqual(repr(value), shown)
        self.assertTrue(S == Scheme(2, 2))


if __name__ == "__main__":
    unittest.main()
