"""Points 1 and 10: places, levels and rows, which the other modules compute with."""

import unittest

from snapdigits.levels import (
    count_in_rows, count_of_level, cut_rows, ends_of_level, greatest_in_rows, kept_rows, kept_spans, number_at,
    numbers_in_spans, numbers_of_level, numbers_of_rows, places_up_to, round_down, round_up, rows_apart,
)
from snapdigits.schemes import Scheme

from digits import walked_level
from walks import LONG, LONG_TIMES, SMALL, named, schemes, walked_kept


class Rounding(unittest.TestCase):

    def test_small(self):
        for step in (1, 2, 3, 10):
            for number in range(-25, 50):
                multiples = range(-30 * step, 51 * step, step)
                self.assertEqual(round_down(number, step), max(m for m in multiples if m <= number))
                self.assertEqual(round_up(number, step), min(m for m in multiples if m >= number))

    def test_long(self):
        self.assertEqual(round_down(10 ** 30 - 1, 10 ** 29), 9 * 10 ** 29)
        self.assertEqual(round_up(10 ** 30 - 1, 10 ** 29), 10 ** 30)


class Places(unittest.TestCase):

    def test_powers(self):
        self.assertEqual(places_up_to(10, 0), [])
        self.assertEqual(places_up_to(10, 1), [1])
        self.assertEqual(places_up_to(10, 9), [1])
        self.assertEqual(places_up_to(10, 10), [1, 10])
        self.assertEqual(places_up_to(2, 2 ** 99 - 1), [2 ** k for k in range(99)])


class NumbersOfLevels(unittest.TestCase):

    def test_small(self):
        for base in (2, 3, 10):
            for level, place in enumerate((1, base, base ** 2)):
                for low in range(1, 60):
                    for high in range(low - 1, 60):
                        expected = [n for n in range(low, high + 1) if walked_level(base, n) == level]
                        self.assertEqual(numbers_of_level(base, place, low, high), expected)
                        first, last = ends_of_level(base, place, low, high)
                        self.assertEqual(first <= last, expected != [])
                        if expected:
                            self.assertEqual((first, last), (expected[0], expected[-1]))
                            self.assertEqual(count_of_level(base, place, first, last), len(expected))


class Rows(unittest.TestCase):

    def test_small(self):
        for scheme in schemes(SMALL):
            for time in range(130):
                rows = kept_rows(scheme, time)
                kept = walked_kept(scheme, time)
                self.assertEqual(numbers_of_rows(rows), kept, (named(scheme), time))
                self.assertEqual(count_in_rows(rows), len(kept))
                self.assertEqual([number_at(rows, at) for at in range(len(kept))], kept)
                self.assertIsNone(number_at(rows, len(kept)))

    def test_few_rows_for_long_times(self):
        for scheme in schemes(LONG):
            for time in LONG_TIMES:
                self.assertLessEqual(len(kept_rows(scheme, time)), 102)

    def test_cut(self):
        for low in range(12):
            for high in range(low - 1, 14):
                rows = cut_rows(kept_rows(Scheme(2, 2), 10), low, high)
                expected = [n for n in (0, 4, 6, 8, 9, 10) if low <= n <= high]
                self.assertEqual(numbers_of_rows(rows), expected)

    def test_apart(self):
        rows = kept_rows(Scheme(2, 2), 40)
        kept = numbers_of_rows(rows)
        for numbers in ([], [0], [40], [41, 50], [24], [25], [0, 1, 2, 3, 36, 37, 38], list(range(41)), [16, 31, 33]):
            apart = rows_apart(rows, numbers)
            self.assertEqual(numbers_of_rows(apart), [n for n in kept if n not in numbers])
            for first, last, _ in apart:
                self.assertFalse([n for n in numbers if first <= n <= last])

    def test_greatest(self):
        rows = rows_apart(kept_rows(Scheme(2, 2), 40), [0, 24, 38])
        kept = numbers_of_rows(rows)
        for most in range(45):
            below = [n for n in kept if n <= most]
            self.assertEqual(greatest_in_rows(rows, most), below[-1] if below else None)
        self.assertIsNone(greatest_in_rows([], 5))


class Spans(unittest.TestCase):

    def test_all_numbers_up_to_the_time(self):
        for scheme in schemes(SMALL):
            for time in range(80):
                spans = kept_spans(scheme, time)
                numbers = [n for low, high, _ in spans for n in range(low, high + 1)]
                self.assertEqual(numbers, list(range(time + 1)), (named(scheme), time))
                kept = [n for low, high, step in spans for n in range(low, high + 1) if n % step == 0]
                self.assertEqual(kept, walked_kept(scheme, time), (named(scheme), time))

    def test_numbers_in_spans(self):
        self.assertEqual(numbers_in_spans([0, 3, 4, 5, 9, 10, 11], [(1, 4), (6, 6), (9, 10)]), [3, 4, 9, 10])
        self.assertEqual(numbers_in_spans([1, 2], []), [])
        self.assertEqual(numbers_in_spans([], [(1, 2)]), [])


if __name__ == "__main__":
    unittest.main()
