"""Points 10 to 15 for small times, compared with lists that are made number by number."""

import unittest

from snapdigits.kept import (
    changes, count_kept, dropped, kept_between, kept_levels, kept_number, next_drop, next_kept,
    previous_kept, rank,
)
from snapdigits.schemes import Scheme

from walks import SMALL, named, schemes, walked_kept

TIMES = range(300)
S = Scheme(2, 2)


def walked_levels(scheme, kept):
    by_level = {}
    for number in kept:
        if number > 0:
            by_level.setdefault(scheme.level(number), []).append(number)
    return [(level, found[0], found[-1], len(found)) for level, found in sorted(by_level.items())]


def walked_drop(scheme, kept, time):
    """The first later time at which not all of the kept numbers are kept, time by time."""
    later = time + 1
    while all(scheme.is_kept(number, later) for number in kept):
        later += 1
    return (later, [number for number in kept if not scheme.is_kept(number, later)])


class Counts(unittest.TestCase):

    def test_examples(self):
        self.assertEqual(walked_kept(S, 10), [0, 4, 6, 8, 9, 10])
        self.assertEqual(count_kept(S, 10), 6)
        self.assertEqual(kept_levels(S, 10), [(0, 9, 9, 1), (1, 6, 10, 2), (2, 4, 4, 1), (3, 8, 8, 1)])

    def test_all_small_times(self):
        for scheme in schemes(SMALL):
            for time in TIMES:
                kept = walked_kept(scheme, time)
                self.assertEqual(count_kept(scheme, time), len(kept), (named(scheme), time))
                self.assertEqual(kept_levels(scheme, time), walked_levels(scheme, kept), (named(scheme), time))

    def test_time_0(self):
        for scheme in schemes(SMALL):
            self.assertEqual(count_kept(scheme, 0), 1)
            self.assertEqual(kept_levels(scheme, 0), [])

    def test_a_level_without_kept_numbers_is_left_out(self):
        self.assertEqual([row[0] for row in kept_levels(Scheme(2, 1), 10)], [0, 1, 3])


class Ranks(unittest.TestCase):

    def test_examples(self):
        self.assertEqual(rank(S, 10, 7), 3)
        self.assertEqual(kept_number(S, 10, 3), 8)
        self.assertEqual(previous_kept(S, 10, 7), 6)
        self.assertEqual(next_kept(S, 10, 1), 4)

    def test_all_small_times(self):
        for scheme in schemes(SMALL):
            for time in (*range(131), 200, 243, 299):
                kept = walked_kept(scheme, time)
                self.assertEqual([kept_number(scheme, time, at) for at in range(len(kept))], kept)
                for number in range(time + 4):
                    told = (named(scheme), time, number)
                    below = [n for n in kept if n < number]
                    self.assertEqual(rank(scheme, time, number), len(below), told)
                    self.assertEqual(previous_kept(scheme, time, number), max(n for n in kept if n <= number), told)
                    following = min([n for n in kept if n >= number], default=None)
                    self.assertEqual(next_kept(scheme, time, number), following, told)

    def test_time_0(self):
        for scheme in schemes(SMALL):
            self.assertEqual([rank(scheme, 0, number) for number in (0, 1, 9)], [0, 1, 1])
            self.assertEqual(kept_number(scheme, 0, 0), 0)
            self.assertEqual([previous_kept(scheme, 0, number) for number in (0, 1, 9)], [0, 0, 0])
            self.assertEqual([next_kept(scheme, 0, number) for number in (0, 1, 9)], [0, None, None])

    def test_none_only_above_the_time(self):
        for scheme in schemes(SMALL):
            for time in range(60):
                self.assertEqual(next_kept(scheme, time, time), time)
                self.assertIsNone(next_kept(scheme, time, time + 1))


class Ranges(unittest.TestCase):

    def test_example(self):
        self.assertEqual(kept_between(S, 10, 5, 9), [6, 8, 9])

    def test_all_small_ranges(self):
        for scheme in schemes(SMALL):
            for time in (0, 1, 5, 16, 31, 40):
                kept = walked_kept(scheme, time)
                for low in range(44):
                    for high in range(low, 44):
                        expected = [n for n in kept if low <= n <= high]
                        self.assertEqual(kept_between(scheme, time, low, high), expected, (named(scheme), time))

    def test_all_small_times(self):
        for scheme in schemes(SMALL):
            for time in TIMES:
                kept = walked_kept(scheme, time)
                for low, high in ((0, time), (1, time), (time // 3, time // 2), (time // 2, time + 5), (time, time)):
                    if low <= high:
                        expected = [n for n in kept if low <= n <= high]
                        self.assertEqual(kept_between(scheme, time, low, high), expected, (named(scheme), time))

    def test_empty(self):
        self.assertEqual(kept_between(S, 10, 1, 3), [])
        self.assertEqual(kept_between(S, 10, 5, 5), [])
        self.assertEqual(kept_between(S, 10, 11, 10 ** 29), [])

    def test_the_list_belongs_to_the_caller(self):
        first = kept_between(S, 10, 0, 10)
        first.clear()
        self.assertEqual(kept_between(S, 10, 0, 10), [0, 4, 6, 8, 9, 10])
        rows = kept_levels(S, 10)
        rows.pop()
        self.assertEqual(len(kept_levels(S, 10)), 4)


class Drops(unittest.TestCase):

    def test_examples(self):
        self.assertEqual(dropped(S, 10, 13), [4, 6, 9])
        self.assertEqual(changes(S, 10, 13), (3, 3))
        self.assertEqual(next_drop(S, 10), (11, [6]))

    def test_all_small_times(self):
        for scheme in schemes(SMALL):
            kept = [walked_kept(scheme, time) for time in range(150)]
            for before in range(150):
                for after in (*range(before, min(before + 12, 150)), *range(before, 150, 17)):
                    told = (named(scheme), before, after)
                    gone = [n for n in kept[before] if n not in kept[after]]
                    new = [n for n in kept[after] if n > before]
                    self.assertEqual(dropped(scheme, before, after), gone, told)
                    self.assertEqual(changes(scheme, before, after), (len(gone), len(new)), told)

    def test_equal_times(self):
        for scheme in schemes(SMALL):
            for time in (0, 1, 10, 99, 10 ** 29):
                self.assertEqual(dropped(scheme, time, time), [])
                self.assertEqual(changes(scheme, time, time), (0, 0))

    def test_next_drop(self):
        for scheme in schemes(SMALL):
            for time in range(1, 150):
                found = next_drop(scheme, time)
                self.assertEqual(found, walked_drop(scheme, walked_kept(scheme, time), time), (named(scheme), time))
                self.assertIsInstance(found, tuple)

    def test_several_at_once(self):
        # All of them live until 8: 4 + 4 = 6 + 2 = 7 + 1.
        self.assertEqual(next_drop(Scheme(2, 1), 8), (9, [4, 6, 7]))

    def test_no_next_drop_at_time_0_only(self):
        for scheme in schemes(SMALL):
            self.assertIsNone(next_drop(scheme, 0))
            for time in (1, 2, 3, 10 ** 29):
                self.assertIsNotNone(next_drop(scheme, time))

    def test_the_lists_belong_to_the_caller(self):
        dropped(S, 10, 13).clear()
        next_drop(S, 10)[1].clear()
        self.assertEqual(dropped(S, 10, 13), [4, 6, 9])
        self.assertEqual(next_drop(S, 10), (11, [6]))


if __name__ == "__main__":
    unittest.main()
