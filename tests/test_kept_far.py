"""Points 1 and 10 to 15 for times of thirty digits, and the limits of lists."""

import unittest

from snapdigits.kept import (
    changes, count_kept, dropped, kept_between, kept_levels, kept_number, next_drop, next_kept,
    previous_kept, rank,
)
from snapdigits.schemes import Scheme

from raising import RaisingCase
from walks import LONG, LONG_TIMES, named, schemes, soon


def cases():
    return [(scheme, time) for scheme in schemes(LONG) for time in LONG_TIMES]


def level_neighbours(base, level, number):
    """The numbers of the same level before and behind a number of a level."""
    place = base ** level
    before, behind = number - place, number + place
    if before % (place * base) == 0:
        before -= place
    if behind % (place * base) == 0:
        behind += place
    return before, behind


def some_indexes(count):
    """The ends, the middle, and indexes near powers of 2."""
    near = [2 ** k + step for k in range(count.bit_length()) for step in (-1, 0)]
    far = [count - 1 - index for index in near]
    return [index for index in (*near, *far, count // 2, count // 3) if 0 <= index < count]


class FarLevels(unittest.TestCase):

    def test_the_ends_of_each_level(self):
        for scheme, time in cases():
            for level, first, last, count in kept_levels(scheme, time):
                told = (named(scheme), time, level)
                self.assertEqual([scheme.level(first), scheme.level(last)], [level, level], told)
                self.assertTrue(scheme.is_kept(first, time) and scheme.is_kept(last, time), told)
                before = level_neighbours(scheme.base(), level, first)[0]
                self.assertTrue(before < 0 or not scheme.is_kept(before, time), told)
                behind = level_neighbours(scheme.base(), level, last)[1]
                self.assertFalse(scheme.is_kept(behind, time), told)
                self.assertEqual(count == 1, first == last, told)

    def test_the_counts_of_short_levels(self):
        for scheme, time in cases():
            for level, first, last, count in kept_levels(scheme, time):
                place = scheme.base() ** level
                if (last - first) // place < 500:
                    multiples = range(first, last + 1, place)
                    self.assertEqual(count, sum(scheme.level(number) == level for number in multiples))

    def test_levels_that_are_left_out(self):
        for scheme, time in cases():
            listed = [row[0] for row in kept_levels(scheme, time)]
            self.assertEqual(listed, sorted(set(listed)))
            level = 0
            while scheme.base() ** level <= time:
                if level not in listed:
                    place = scheme.base() ** level
                    newest = time - time % place
                    for number in (newest, newest - place):
                        if scheme.level(number) == level:
                            self.assertFalse(scheme.is_kept(number, time), (named(scheme), time, level))
                level += 1

    def test_the_count_is_that_of_the_levels_and_0(self):
        for scheme, time in cases():
            counts = [row[3] for row in kept_levels(scheme, time)]
            self.assertEqual(count_kept(scheme, time), 1 + sum(counts), (named(scheme), time))

    def test_known_counts(self):
        self.assertEqual(count_kept(Scheme(10, 1), 10 ** 20), 22)
        # All numbers are kept up to the factor.
        self.assertEqual(count_kept(Scheme(2, 10 ** 6), 10 ** 6), 10 ** 6 + 1)
        # From 0 to 10 ** 6 only even numbers are left then.
        self.assertEqual(count_kept(Scheme(2, 10 ** 6), 2 * 10 ** 6 + 1), 10 ** 6 + 1 + 5 * 10 ** 5 + 1)


class FarRanks(unittest.TestCase):

    def test_rank_and_kept_number(self):
        with soon():
            for scheme, time in cases():
                for index in some_indexes(count_kept(scheme, time)):
                    number = kept_number(scheme, time, index)
                    self.assertTrue(scheme.is_kept(number, time), (named(scheme), time, index))
                    self.assertEqual(rank(scheme, time, number), index)
                    self.assertEqual(rank(scheme, time, number + 1), index + 1)

    def test_neighbours_by_rank(self):
        with soon():
            for scheme, time in cases():
                count = count_kept(scheme, time)
                for index in some_indexes(count - 1)[::3]:
                    number = kept_number(scheme, time, index)
                    following = kept_number(scheme, time, index + 1)
                    self.assertLess(number, following)
                    for between in (number + 1, (number + following) // 2 + 1, following):
                        self.assertEqual(next_kept(scheme, time, between), following)
                        self.assertEqual(previous_kept(scheme, time, between - 1), number)

    def test_ends(self):
        for scheme, time in cases():
            self.assertEqual(kept_number(scheme, time, 0), 0)
            self.assertEqual(kept_number(scheme, time, count_kept(scheme, time) - 1), time)
            self.assertEqual(rank(scheme, time, 0), 0)
            self.assertEqual(rank(scheme, time, 10 ** 30), count_kept(scheme, time))
            self.assertEqual(previous_kept(scheme, time, 10 ** 30), time)
            self.assertIsNone(next_kept(scheme, time, time + 1))

    def test_each_kept_number_of_a_small_factor(self):
        for scheme in schemes(((2, 1), (2, 2), (10, 1), (10, 3), (1000, 1))):
            for time in LONG_TIMES:
                kept = [0]
                while kept[-1] < time:
                    kept.append(next_kept(scheme, time, kept[-1] + 1))
                self.assertEqual(len(kept), count_kept(scheme, time))
                self.assertEqual(kept_between(scheme, time, 0, time), kept)
                self.assertTrue(all(scheme.is_kept(number, time) for number in kept))


class FarChanges(unittest.TestCase):

    def test_one_step(self):
        for scheme, time in cases():
            gone = dropped(scheme, time - 1, time)
            self.assertEqual(changes(scheme, time - 1, time), (len(gone), 1))
            for number in gone:
                self.assertEqual(scheme.last_time(number), time - 1)
            self.assertEqual(count_kept(scheme, time), count_kept(scheme, time - 1) - len(gone) + 1)

    def test_next_drop(self):
        for scheme, time in cases():
            later, numbers = next_drop(scheme, time)
            self.assertGreater(later, time)
            self.assertTrue(numbers)
            self.assertEqual([scheme.last_time(number) for number in numbers], [later - 1] * len(numbers))
            self.assertEqual(dropped(scheme, time, later - 1), [])
            self.assertEqual(dropped(scheme, time, later), numbers)

    def test_times_far_apart(self):
        for scheme in schemes(((2, 1), (3, 5), (10, 2))):
            for before in (100, 10 ** 15, 123456789012345678901234567):
                after = 900000000000000000000000000001
                kept = kept_between(scheme, before, 0, before)
                gone = [number for number in kept if not scheme.is_kept(number, after)]
                self.assertEqual(dropped(scheme, before, after), gone)
                added = [n for n in kept_between(scheme, after, 0, after) if n > before]
                self.assertEqual(changes(scheme, before, after), (len(gone), len(added)))

    def test_changes_where_far_more_than_1000_are_dropped(self):
        with soon():
            s = Scheme(2, 10 ** 6)
            before, after = 10 ** 29, 9 * 10 ** 29
            stayed = rank(s, after, before + 1)
            counts = (count_kept(s, before) - stayed, count_kept(s, after) - stayed)
            self.assertEqual(changes(s, before, after), counts)
            self.assertGreater(counts[0], 10 ** 6)
        # 10 ** 6 + 1 numbers are kept; half of those above 0 are of level 0, and only they are too old.
        self.assertEqual(changes(s, 10 ** 6, 2 * 10 ** 6), (5 * 10 ** 5, 10 ** 6))


class Limits(RaisingCase):

    def test_between_1000_and_1001(self):
        s = Scheme(2, 2000)
        self.assertEqual(kept_between(s, 2000, 0, 999), list(range(1000)))
        self.assertEqual(kept_between(s, 2000, 1001, 2000), list(range(1001, 2001)))
        self.assertEqual(kept_between(s, 999, 0, 10 ** 29), list(range(1000)))
        self.assert_limit(1000, kept_between, s, 2000, 0, 1000)
        self.assert_limit(1000, kept_between, s, 2000, 1000, 2000)
        self.assert_limit(1000, kept_between, s, 1000, 0, 10 ** 29)

    def test_between_far(self):
        s = Scheme(2, 10 ** 6)
        with soon():
            for time in LONG_TIMES:
                self.assert_limit(1000, kept_between, s, time, 0, time)
                self.assertEqual(kept_between(s, time, time - 999, time), list(range(time - 999, time + 1)))
                self.assert_limit(1000, kept_between, s, time, time - 1000, time)
                middle = count_kept(s, time) // 2
                low, high = kept_number(s, time, middle), kept_number(s, time, middle + 999)
                found = kept_between(s, time, low, high)
                self.assertEqual((len(found), found[0], found[-1]), (1000, low, high))
                self.assertEqual(found, sorted(set(found)))
                self.assert_limit(1000, kept_between, s, time, low, high + high - found[-2])

    def test_dropped_1000_and_1001(self):
        # Up to the factor nothing is gone; then 1, 3, 5 .. go one by one, at every second time.
        s = Scheme(2, 10 ** 6)
        before = 10 ** 6
        self.assertEqual(dropped(s, before, before + 2000), list(range(1, 2000, 2)))
        self.assertEqual(dropped(s, before, before + 2001), list(range(1, 2000, 2)))
        self.assert_limit(1000, dropped, s, before, before + 2002)
        with soon():
            self.assert_limit(1000, dropped, s, 10 ** 29, 9 * 10 ** 29)


if __name__ == "__main__":
    unittest.main()
