"""Points 32 to 35: limits, and far times without listing all numbers."""

import unittest

from snapdigits.archives import Archive
from snapdigits.gaps import (
    count_restorable, greatest_loss, loss, missing_that_matter, newest_kept, newest_restorable, newest_state_over,
    restorable_between,
)
from snapdigits.kept import count_kept, kept_between, previous_kept
from snapdigits.schemes import Scheme

from archive_samples import crowded_archive
from raising import RaisingCase
from walks import LONG, LONG_TIMES, named, schemes, soon


class Limits(RaisingCase):

    def test_1000_numbers_and_1001(self):
        b = Archive(Scheme(2, 2000))
        self.assertEqual(restorable_between(b, 2000, 1, 1000), list(range(1, 1001)))
        self.assert_limit(1000, restorable_between, b, 2000, 0, 1000)
        self.assertEqual(count_restorable(b, 2000, 0, 1000), 1001)
        self.assertEqual(greatest_loss(b, 2000, 1, 1000), (0, 1))
        self.assert_limit(1000, greatest_loss, b, 2000, 0, 1000)

    def test_only_restorable_numbers_count(self):
        b = Archive(Scheme(2, 2000), missing=[7], damaged=[1001, 1003])
        self.assertEqual(count_restorable(b, 2000, 0, 1000), 1000)
        self.assertEqual(len(restorable_between(b, 2000, 0, 1001)), 1000)
        self.assertEqual(greatest_loss(b, 2000, 0, 1001), (1, 7))
        self.assert_limit(1000, greatest_loss, b, 2000, 0, 1002)
        self.assert_limit(1000, restorable_between, b, 2000, 0, 1002)

    def test_the_limit_comes_before_no_loss(self):
        b = Archive(Scheme(2, 5000), damaged=[0], full=[1, 2, 4, 8, 16, 32, 64, 128, 256, 512, 1024])
        self.assertEqual(greatest_loss(b, 2000, 0, 1000), (None, 0))
        self.assert_limit(1000, greatest_loss, b, 2000, 0, 1001)


class StateOverLimits(RaisingCase):
    """At least 1000 restorable numbers, the least of the 1000 greatest above 0, and no state from it on qualifies."""

    def test_all_three(self):
        b = Archive(Scheme(2, 5000))
        self.assert_limit(1000, newest_state_over, b, 1000, 0)
        self.assert_limit(1000, newest_state_over, b, 4000, 7)
        # There is a state that qualifies, but it is too far back.
        self.assert_limit(1000, newest_state_over, Archive(Scheme(2, 5000), missing=[5]), 1005, 0)
        # Exactly 1000 restorable numbers, of which the least is above 0.
        c = Archive(Scheme(2, 5000), damaged=[0], full=[1024])
        self.assertEqual(count_restorable(c, 2023, 0, 2023), 1000)
        self.assert_limit(1000, newest_state_over, c, 2023, 0)

    def test_fewer_than_1000(self):
        self.assertIsNone(newest_state_over(Archive(Scheme(2, 5000)), 998, 0))
        self.assertEqual(newest_state_over(Archive(Scheme(2, 5000), missing=[5]), 999, 0), 5)
        c = Archive(Scheme(2, 5000), damaged=[0], full=[1024])
        self.assertEqual(newest_state_over(c, 2022, 0), 1023)

    def test_the_least_is_0(self):
        self.assertIsNone(newest_state_over(Archive(Scheme(2, 5000)), 999, 0))
        self.assertEqual(newest_state_over(Archive(Scheme(2, 5000), missing=[5]), 1000, 0), 5)
        self.assertIsNone(newest_state_over(Archive(Scheme(2, 5000), missing=[5]), 1000, 1))

    def test_a_state_from_it_on_qualifies(self):
        b = Archive(Scheme(2, 5000), missing=[5, 8])
        self.assertEqual(newest_state_over(b, 1006, 0), 8)
        self.assertEqual(newest_state_over(b, 1007, 0), 8)
        # The least of the 1000 greatest is 7, whose next state 8 is lost, and then 9.
        self.assertEqual(newest_state_over(b, 1007, 0), 8)
        self.assert_limit(1000, newest_state_over, b, 1008, 0)
        self.assert_limit(1000, newest_state_over, b, 1007, 1)

    def test_far(self):
        with soon():
            b = Archive(Scheme(10, 10 ** 6))
            time = 10 ** 29 + 7
            self.assert_limit(1000, newest_state_over, b, time, 0)
            c = Archive(Scheme(10, 100))
            # The numbers from time - 100 on are all kept, and 90 tens below them, and so on.
            self.assertEqual(newest_state_over(c, time, 0), 10 ** 29 + 7 - 101)
            self.assert_limit(1000, newest_state_over, c, time, 10 ** 28)


class Far(RaisingCase):

    def test_archives_without_lists(self):
        with soon():
            for scheme in schemes(LONG):
                archive = Archive(scheme)
                for time in LONG_TIMES:
                    self.assertEqual(count_restorable(archive, time, 0, time), count_kept(scheme, time), named(scheme))
                    for state in (0, 1, time // 3, time - time // 1000, time - 1, time):
                        expected = previous_kept(scheme, time, state)
                        self.assertEqual(newest_kept(archive, time, state), expected)
                        self.assertEqual(newest_restorable(archive, time, state), expected)
                        self.assertEqual(loss(archive, time, state), state - expected)

    def test_ranges_of_archives_without_lists(self):
        scheme = Scheme(10, 2)
        archive = Archive(scheme)
        for time in LONG_TIMES:
            kept = kept_between(scheme, time, 0, time)
            self.assertEqual(restorable_between(archive, time, 0, time), kept)
            gaps = [(after - 1 - before, after - 1) for before, after in zip(kept, kept[1:] + [time + 1])]
            greatest = max(gap for gap, _ in gaps)
            expected = [pair for pair in gaps if pair[0] == greatest][0]
            self.assertEqual(greatest_loss(archive, time, 0, time), expected)
            over = [state for gap, state in gaps if gap > greatest // 2]
            self.assertEqual(newest_state_over(archive, time, greatest // 2), over[-1])

    def test_damaged_missing_full_and_pinned_numbers(self):
        top = 10 ** 29
        time = 2 * top + 5
        d = Archive(Scheme(10, 2), missing=[2 * top - 100, 2 * top], full=[2 * top + 2], pinned=[5, top + 7],
                    damaged=[top + 5, 2 * top - 10])
        self.assertEqual(restorable_between(d, time, 2 * top - 100, time), [2 * top + 3, 2 * top + 4, time])
        self.assertEqual(restorable_between(d, time, 0, top - 1), [0, 5])
        self.assertEqual(restorable_between(d, time, top, top + 10), [top, top + 7])
        self.assertEqual(newest_restorable(d, time, 2 * top + 2), 2 * top - 1000)
        self.assertEqual(newest_kept(d, time, 2 * top + 2), 2 * top - 10)
        self.assertEqual(loss(d, time, 2 * top + 2), 1002)
        self.assertEqual(missing_that_matter(d, time), [(2 * top - 100, 900), (2 * top, 1000)])
        self.assertEqual(greatest_loss(d, time, 1, top), (top - 6, top - 1))

    def test_full_lists(self):
        with soon(100):
            top = 2 ** 99 - 4096
            for archive in (crowded_archive(Scheme(2, 2), top), crowded_archive(Scheme(2, 1), 2 ** 98 + 1, 2 ** 88 - 1)):
                time = archive.pinned()[-1] + 5
                count = count_restorable(archive, time, 0, time)
                self.assertGreater(count, 80)
                for state in archive.full()[:3] + archive.pinned()[-3:]:
                    found = newest_restorable(archive, time, state)
                    self.assertTrue(archive.is_restorable(found, time))
                    self.assertEqual(count_restorable(archive, time, found, state), 1)
                    self.assertLessEqual(found, newest_kept(archive, time, state))
                for number, lost in missing_that_matter(archive, time):
                    self.assertEqual(loss(archive, time, number), lost)


if __name__ == "__main__":
    unittest.main()
