"""The examples e04, e05, e07, e201 to e219 and e301 to e308 of the document."""

import unittest

from snapdigits.ages import first_time_of_loss, greatest_loss, loss, restore_point, safe_age, widest_gap
from snapdigits.archives import Archive
from snapdigits.kept import (
    changes, count_kept, dropped, kept_between, kept_levels, kept_number, next_drop, next_kept,
    previous_kept, rank,
)
from snapdigits.schemes import Scheme

from raising import RaisingCase

S = Scheme(2, 2)
T = Scheme(10, 2)


class ArchiveExamples(RaisingCase):

    def test_e04(self):
        a = Archive(Scheme(10, 2), missing=[4700], full=[4000])
        self.assertEqual([a.parent(4705), a.chain(4705)], [4000, [4705, 4000]])

    def test_e05(self):
        self.assertEqual(Archive(Scheme(10, 1), pinned=[4705]).pinned_members(4900), [4700, 4705])

    def test_e07(self):
        self.assert_archive("damaged", 1, Archive, Scheme(10, 2), missing=[5], damaged=[4, 5])


class KeptExamples(RaisingCase):

    def test_e201_e202(self):
        self.assertEqual(count_kept(S, 10), 6)
        self.assertEqual(count_kept(Scheme(10, 1), 10 ** 20), 22)

    def test_e203_e204(self):
        self.assertEqual(kept_levels(S, 10), [(0, 9, 9, 1), (1, 6, 10, 2), (2, 4, 4, 1), (3, 8, 8, 1)])
        self.assertEqual(kept_levels(S, 0), [])

    def test_e205_to_e207(self):
        self.assertEqual(rank(S, 10, 7), 3)
        self.assertEqual(kept_number(S, 10, 3), 8)
        self.assert_bound("index", kept_number, S, 10, 6)

    def test_e208_to_e211(self):
        self.assertEqual(previous_kept(S, 10, 7), 6)
        self.assertEqual(previous_kept(S, 10, 99), 10)
        self.assertEqual(next_kept(S, 10, 1), 4)
        self.assertIsNone(next_kept(S, 10, 11))

    def test_e212_to_e214(self):
        self.assertEqual(kept_between(S, 10, 5, 9), [6, 8, 9])
        self.assert_bound("high", kept_between, S, 10, 5, 4)
        self.assert_limit(1000, kept_between, Scheme(2, 2000), 2000, 0, 1000)

    def test_e215_to_e217(self):
        self.assertEqual(dropped(S, 10, 13), [4, 6, 9])
        self.assert_time(9, dropped, S, 10, 9)
        self.assertEqual(changes(S, 10, 13), (3, 3))

    def test_e218_e219(self):
        self.assertEqual(next_drop(S, 10), (11, [6]))
        self.assertIsNone(next_drop(S, 0))


class AgeExamples(RaisingCase):

    def test_e301(self):
        self.assertEqual([restore_point(T, 4733, 20), loss(T, 4733, 20)], [4700, 13])

    def test_e302_e303(self):
        self.assertEqual([greatest_loss(T, age) for age in [0, 2, 3, 11, 12, 20]], [0, 0, 9, 9, 99, 99])
        self.assertEqual([greatest_loss(Scheme(3, 1), age) for age in [1, 2]], [0, None])

    def test_e304_e305(self):
        self.assertEqual([first_time_of_loss(T, 20, least) for least in [99, 10, 100]], [119, 31, None])
        self.assertEqual(first_time_of_loss(Scheme(2, 1), 2, 5), 9)

    def test_e306(self):
        self.assertEqual([safe_age(T, most) for most in [50, 9, 8]], [11, 11, 2])

    def test_e307(self):
        found = [widest_gap(T, 4733), widest_gap(Scheme(2, 1), 13), widest_gap(Scheme(2, 1), 0)]
        self.assertEqual(found, [(0, 3000), (0, 8), None])

    def test_e308(self):
        self.assert_number(6, restore_point, T, 5, 6)


if __name__ == "__main__":
    unittest.main()
