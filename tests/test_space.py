"""Points 36 to 40: sizes and space."""

import unittest

from snapdigits.kept import count_kept, kept_between
from snapdigits.schemes import Scheme
from snapdigits.space import greatest_distance, greatest_full, restore_size, size, size_of_range, space

from digits import walked_chain, walked_parent
from walks import LONG, LONG_TIMES, SMALL, named, schemes, soon, walked_kept

FULLS = (1, 2, 3, 7, 10, 16, 50, 99, 100, 101, 10 ** 6, 10 ** 29)
S = Scheme(10, 2)


def walked_size(scheme, number, full):
    parent = walked_parent(scheme.base(), number)
    return full if parent is None else min(full, number - parent)


class Sizes(unittest.TestCase):

    def test_examples(self):
        self.assertEqual([size(S, 4700, 1000), size(S, 4700, 500), size(S, 0, 500)], [700, 500, 500])
        self.assertEqual([restore_size(S, 4705, 5000), restore_size(S, 4705, 100)], [9705, 305])

    def test_number_by_number(self):
        for scheme in schemes(SMALL):
            for full in FULLS:
                for number in range(150):
                    told = (named(scheme), full, number)
                    self.assertEqual(size(scheme, number, full), walked_size(scheme, number, full), told)
                    chain = walked_chain(scheme.base(), number)
                    expected = sum(walked_size(scheme, member, full) for member in chain)
                    self.assertEqual(restore_size(scheme, number, full), expected, told)

    def test_full_at_the_greatest_distance(self):
        for scheme in schemes(SMALL):
            for number in range(1, 200):
                chain = scheme.chain(number)
                greatest = max(member - parent for member, parent in zip(chain, chain[1:]))
                self.assertEqual(restore_size(scheme, number, greatest), number + greatest)
                self.assertEqual(restore_size(scheme, number, greatest + 5), number + greatest + 5)
                if greatest > 1:
                    self.assertLess(restore_size(scheme, number, greatest - 1), number + greatest - 1)

    def test_thirty_digits(self):
        top = 7 * 10 ** 29
        self.assertEqual(size(S, top, 10 ** 29), 10 ** 29)
        self.assertEqual(size(S, top, 10 ** 30), top)
        self.assertEqual(restore_size(S, top + 43, 10 ** 30), top + 43 + 10 ** 30)
        self.assertEqual(restore_size(S, top + 43, 20), 20 + 20 + 20 + 3)
        self.assertEqual(restore_size(Scheme(2, 1), 2 ** 99 - 1, 1), 100)


class Space(unittest.TestCase):

    def test_examples(self):
        self.assertEqual([space(S, 12, 50), space(S, 12, 1)], [63, 4])

    def test_time_by_time(self):
        for scheme in schemes(SMALL):
            for time in (*range(0, 140), 999, 1000, 1001):
                kept = walked_kept(scheme, time)
                for full in (1, 2, 5, 10, 33, 100, 10 ** 4):
                    expected = sum(walked_size(scheme, number, full) for number in kept)
                    self.assertEqual(space(scheme, time, full), expected, (named(scheme), time, full))

    def test_time_0(self):
        for full in FULLS:
            self.assertEqual(space(S, 0, full), full)

    def test_far_times(self):
        with soon():
            for scheme in schemes(LONG):
                for time in LONG_TIMES:
                    self.assertEqual(space(scheme, time, 1), count_kept(scheme, time), (named(scheme), time))
                    self.assertGreater(space(scheme, time, 10 ** 29), 10 ** 29)
            for scheme in schemes(((2, 1), (2, 3), (3, 2), (10, 2), (10, 9), (1000, 1))):
                for time in LONG_TIMES:
                    kept = kept_between(scheme, time, 0, time)
                    for full in (1, 5, 10 ** 3, 10 ** 14 + 1, 10 ** 27, 10 ** 29):
                        expected = sum(walked_size(scheme, number, full) for number in kept)
                        self.assertEqual(space(scheme, time, full), expected, (named(scheme), time, full))


class Ranges(unittest.TestCase):

    def test_examples(self):
        self.assertEqual([size_of_range(S, 9, 12, 50), size_of_range(S, 0, 3, 50)], [20, 53])

    def test_number_by_number(self):
        for scheme in schemes(((2, 1), (3, 2), (4, 5), (10, 1), (5, 33), (1000, 7))):
            for full in (1, 4, 10, 25, 10 ** 4):
                sizes = [walked_size(scheme, number, full) for number in range(120)]
                for first in range(0, 120, 3):
                    for after in range(first, 120, 2):
                        found = size_of_range(scheme, first, after, full)
                        self.assertEqual(found, sum(sizes[first:after]), (named(scheme), first, after, full))

    def test_empty_ranges(self):
        for first in (0, 1, 10, 10 ** 29, 10 ** 30 - 1):
            for full in (1, 50, 10 ** 29):
                self.assertEqual(size_of_range(S, first, first, full), 0)

    def test_ranges_that_begin_at_0(self):
        self.assertEqual([size_of_range(S, 0, 1, full) for full in FULLS], list(FULLS))
        self.assertEqual(size_of_range(S, 0, 2, 50), 51)

    def test_far_ranges(self):
        with soon():
            for scheme in schemes(LONG):
                for time in LONG_TIMES:
                    self.assertEqual(size_of_range(scheme, 0, time, 1), time)
                    self.assertEqual(size_of_range(scheme, time // 2, time, 1), time - time // 2)
                    for full in (1, 10, 10 ** 6, 10 ** 28):
                        near = sum(walked_size(scheme, time + k, full) for k in range(30))
                        self.assertEqual(size_of_range(scheme, time, time + 30, full), near)
                        whole = size_of_range(scheme, 5, time + 30, full)
                        self.assertEqual(whole, size_of_range(scheme, 5, time, full) + near)

    def test_a_whole_block_of_thirty_digits(self):
        # Each of the 10 ** 28 numbers with a given lowest nonzero digit at the lowest place has its own distance.
        expected = sum(45 * 10 ** place * 10 ** (28 - place) for place in range(29)) + 10 ** 29
        self.assertEqual(size_of_range(S, 0, 10 ** 29, 10 ** 29), expected)


class Distances(unittest.TestCase):

    def test_examples(self):
        self.assertEqual([greatest_distance(S, 12), greatest_distance(S, 0)], [(10, 10), None])

    def test_time_by_time(self):
        for scheme in schemes(SMALL):
            self.assertIsNone(greatest_distance(scheme, 0))
            for time in (*range(1, 200), 999, 1000, 1001, 2000):
                pairs = [(number - walked_parent(scheme.base(), number), number)
                         for number in walked_kept(scheme, time) if number > 0]
                greatest = max(distance for distance, _ in pairs)
                found = [pair for pair in pairs if pair[0] == greatest]
                self.assertEqual(greatest_distance(scheme, time), found[0], (named(scheme), time))

    def test_the_greatest_digit_of_the_highest_level(self):
        # Between two numbers of a level with the same digit there is one of a higher level, so none has an equal.
        self.assertEqual(greatest_distance(Scheme(10, 60), 59), (50, 50))
        self.assertEqual(greatest_distance(Scheme(2, 3), 3), (2, 2))
        self.assertEqual(greatest_distance(Scheme(1000, 500), 900), (900, 900))
        self.assertEqual(greatest_distance(Scheme(3, 5), 8), (6, 6))

    def test_from_this_distance_on_only_0_grows(self):
        for scheme in schemes(SMALL):
            for time in (1, 2, 9, 10, 33, 100, 128):
                distance = greatest_distance(scheme, time)[0]
                self.assertEqual(space(scheme, time, distance + 7), space(scheme, time, distance) + 7)
                if distance > 1:
                    self.assertGreater(space(scheme, time, distance), space(scheme, time, distance - 1) + 1)

    def test_far_times(self):
        with soon():
            for scheme in schemes(((2, 1), (2, 3), (3, 2), (10, 2), (10, 9), (1000, 1))):
                for time in LONG_TIMES:
                    pairs = [(number - walked_parent(scheme.base(), number), number)
                             for number in kept_between(scheme, time, 1, time)]
                    greatest = max(distance for distance, _ in pairs)
                    expected = min(pair for pair in pairs if pair[0] == greatest)
                    self.assertEqual(greatest_distance(scheme, time), expected, (named(scheme), time))
            for time in LONG_TIMES:
                distance, number = greatest_distance(Scheme(2, 10 ** 6), time)
                self.assertEqual(number - walked_parent(2, number), distance)


class GreatestFull(unittest.TestCase):

    def test_examples(self):
        self.assertEqual([greatest_full(S, 12, 63), greatest_full(S, 12, 3)], [50, None])

    def test_against_the_space_of_it_and_of_one_more(self):
        for scheme in schemes(SMALL):
            for time in (0, 1, 2, 5, 12, 31, 64, 100, 130):
                for most in (0, 1, 2, 3, 5, 8, 13, 20, 63, 64, 100, 500, 10 ** 5, 10 ** 29):
                    full = greatest_full(scheme, time, most)
                    if full is None:
                        self.assertGreater(space(scheme, time, 1), most)
                    else:
                        self.assertLessEqual(space(scheme, time, full), most)
                        self.assertGreater(space(scheme, time, full + 1), most)

    def test_each_bound(self):
        for scheme in schemes(((2, 2), (10, 2), (3, 1))):
            for time in (0, 3, 12, 40):
                found = {}
                for full in range(1, 60):
                    found[space(scheme, time, full)] = full
                expected = None
                for most in range(0, space(scheme, time, 59)):
                    expected = found.get(most, expected)
                    self.assertEqual(greatest_full(scheme, time, most), expected, (named(scheme), time, most))

    def test_a_bound_that_is_too_small(self):
        self.assertIsNone(greatest_full(S, 0, 0))
        self.assertEqual(greatest_full(S, 0, 1), 1)
        self.assertIsNone(greatest_full(S, 10 ** 29, count_kept(S, 10 ** 29) - 1))
        self.assertEqual(greatest_full(S, 10 ** 29, count_kept(S, 10 ** 29)), 1)

    def test_far_times(self):
        with soon():
            for scheme in schemes(LONG):
                for time in LONG_TIMES[::3]:
                    for most in (10 ** 12, 10 ** 29, 10 ** 30 - 1):
                        full = greatest_full(scheme, time, most)
                        self.assertLessEqual(space(scheme, time, full), most)
                        self.assertGreater(space(scheme, time, full + 1), most)


if __name__ == "__main__":
    unittest.main()
