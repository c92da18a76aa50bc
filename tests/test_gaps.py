"""Points 32 to 35 near: small archives, compared with a list of their restorable numbers."""

import unittest

from snapdigits.archives import Archive
from snapdigits.gaps import (
    count_restorable, greatest_loss, loss, missing_that_matter, newest_kept, newest_restorable, newest_state_over,
    restorable_between,
)
from snapdigits.schemes import Scheme

from archive_samples import drawn_archives, parts_of, small_archives

A = Archive(Scheme(2, 2), missing=[6], damaged=[8])


def cases():
    """(archive, time, kept, restorable): small archives at many times, with the lists made number by number."""
    for archive in small_archives() + drawn_archives("gaps", 40):
        for time in (*range(0, 70, 3), 63, 64, 100, 131, 300):
            kept = [number for number in range(time + 1) if archive.is_kept(number, time)]
            yield archive, time, kept, [number for number in kept if archive.is_restorable(number, time)]


def every_state_cases():
    """Fewer archives, but every time up to some hundred."""
    for archive in drawn_archives("every state", 4, 50):
        for time in range(0, 130):
            kept = [number for number in range(time + 1) if archive.is_kept(number, time)]
            yield archive, time, kept, [number for number in kept if archive.is_restorable(number, time)]


def newest(numbers, state):
    found = [number for number in numbers if number <= state]
    return found[-1] if found else None


def lost(restorable, state):
    found = newest(restorable, state)
    return None if found is None else state - found


def order(one):
    """No loss counts as greater than all others."""
    return float("inf") if one is None else one


def walked_greatest(restorable, low, high):
    losses = [lost(restorable, state) for state in range(low, high + 1)]
    greatest = max(losses, key=order)
    return (greatest, low + losses.index(greatest))


class NewestNumbers(unittest.TestCase):

    def test_examples(self):
        self.assertEqual(newest_kept(A, 10, 7), 4)
        self.assertEqual(newest_restorable(A, 10, 10), 4)
        self.assertEqual(loss(A, 10, 10), 6)

    def test_every_state(self):
        for archive, time, kept, restorable in every_state_cases():
            for state in range(time + 1):
                told = (parts_of(archive), time, state)
                self.assertEqual(newest_kept(archive, time, state), newest(kept, state), told)
                self.assertEqual(newest_restorable(archive, time, state), newest(restorable, state), told)
                self.assertEqual(loss(archive, time, state), lost(restorable, state), told)

    def test_many_archives(self):
        without = 0
        for archive, time, kept, restorable in cases():
            for state in sorted({0, time // 3, time // 2, max(0, time - 1), time}):
                told = (parts_of(archive), time, state)
                self.assertEqual(newest_kept(archive, time, state), newest(kept, state), told)
                self.assertEqual(newest_restorable(archive, time, state), newest(restorable, state), told)
                self.assertEqual(loss(archive, time, state), lost(restorable, state), told)
                without += not restorable
        self.assertGreater(without, 10)

    def test_pinned_numbers(self):
        p = Archive(Scheme(10, 1), pinned=[4705], damaged=[4700], full=[4703])
        self.assertEqual([newest_kept(p, 9000, state) for state in (4704, 4705, 4999)], [4700, 4705, 4705])
        self.assertEqual([newest_restorable(p, 9000, state) for state in (4704, 4705, 4999)], [4000, 4000, 4000])
        p = Archive(Scheme(10, 1), pinned=[4703, 4705], damaged=[4700], full=[4703])
        self.assertEqual([newest_restorable(p, 9000, state) for state in (4702, 4703, 4999)], [4000, 4703, 4703])


class Restorable(unittest.TestCase):

    def test_examples(self):
        self.assertEqual(count_restorable(A, 10, 0, 10), 2)
        self.assertEqual(restorable_between(A, 10, 1, 10), [4])

    def test_many_archives(self):
        for archive, time, kept, restorable in cases():
            for low in sorted({0, 1, time // 3, time // 2, time}):
                for high in sorted({low, low + 1, time // 2, time - 1, time}):
                    if low <= high <= time:
                        expected = [number for number in restorable if low <= number <= high]
                        told = (parts_of(archive), time, low, high)
                        self.assertEqual(restorable_between(archive, time, low, high), expected, told)
                        self.assertEqual(count_restorable(archive, time, low, high), len(expected), told)

    def test_the_list_belongs_to_the_caller(self):
        restorable_between(A, 10, 1, 10).clear()
        self.assertEqual(restorable_between(A, 10, 1, 10), [4])


class Greatest(unittest.TestCase):

    def test_examples(self):
        self.assertEqual(greatest_loss(A, 10, 0, 10), (6, 10))
        self.assertEqual(greatest_loss(A, 10, 0, 5), (3, 3))

    def test_every_range(self):
        for archive in drawn_archives("every range", 6, 25):
            for time in (0, 1, 2, 9, 20, 26):
                restorable = [n for n in range(time + 1) if archive.is_restorable(n, time)]
                for low in range(time + 1):
                    for high in range(low, time + 1):
                        expected = walked_greatest(restorable, low, high)
                        told = (parts_of(archive), time, low, high)
                        self.assertEqual(greatest_loss(archive, time, low, high), expected, told)

    def test_many_archives(self):
        for archive, time, kept, restorable in cases():
            for low, high in sorted({(0, time), (time, time), (time // 2, time), (time // 3, time // 2)}):
                told = (parts_of(archive), time, low, high)
                self.assertEqual(greatest_loss(archive, time, low, high), walked_greatest(restorable, low, high), told)

    def test_the_first_of_several(self):
        b = Archive(Scheme(10, 1), missing=[10, 20, 30])
        # At time 39 the numbers 0, 38 and 39 are kept.
        self.assertEqual(greatest_loss(b, 39, 0, 39), (37, 37))
        b = Archive(Scheme(10, 4))
        # At time 44 the numbers 0, 10, 20, 30 and 40 are kept, so 19, 29 and 39 have the loss of 9.
        self.assertEqual(greatest_loss(b, 44, 0, 44), (9, 9))
        self.assertEqual(greatest_loss(b, 44, 10, 44), (9, 19))
        self.assertEqual(greatest_loss(b, 44, 20, 38), (9, 29))
        self.assertEqual(greatest_loss(b, 44, 30, 38), (8, 38))
        self.assertEqual(greatest_loss(b, 44, 40, 44), (0, 40))

    def test_a_range_that_begins_behind_a_restorable_number(self):
        b = Archive(Scheme(10, 4))
        self.assertEqual(greatest_loss(b, 44, 13, 13), (3, 13))
        self.assertEqual(greatest_loss(b, 44, 13, 20), (9, 19))
        self.assertEqual(greatest_loss(b, 44, 19, 28), (9, 19))

    def test_no_loss_is_the_greatest(self):
        b = Archive(Scheme(10, 2), damaged=[0], full=[6])
        self.assertEqual(greatest_loss(b, 8, 0, 8), (None, 0))
        self.assertEqual(greatest_loss(b, 8, 5, 8), (None, 5))
        self.assertEqual(greatest_loss(b, 8, 6, 8), (2, 8))
        self.assertEqual(greatest_loss(b, 9, 0, 9), (None, 0))


class StateOver(unittest.TestCase):

    def test_examples(self):
        self.assertEqual(newest_state_over(A, 10, 2), 10)
        self.assertIsNone(newest_state_over(A, 10, 6))

    def test_every_limit(self):
        seen = set()
        for archive, time, kept, restorable in cases():
            losses = [lost(restorable, state) for state in range(time + 1)]
            for limit in (0, 1, 2, 3, 5, 8, 13, 40, time, 10 ** 29):
                over = [state for state in range(time + 1) if losses[state] is None or losses[state] > limit]
                expected = over[-1] if over else None
                self.assertEqual(newest_state_over(archive, time, limit), expected, (parts_of(archive), time, limit))
                seen.add((expected is None, losses[expected or 0] is None))
        self.assertEqual(len(seen), 3)

    def test_states_without_a_restorable_number(self):
        b = Archive(Scheme(10, 2), damaged=[0], full=[6])
        self.assertEqual(newest_state_over(b, 8, 10 ** 29), 5)
        self.assertEqual(newest_state_over(b, 8, 1), 8)
        self.assertEqual(newest_state_over(b, 9, 0), 9)
        self.assertEqual(newest_state_over(Archive(Scheme(10, 2), damaged=[0]), 0, 5), 0)


class Missing(unittest.TestCase):

    def test_examples(self):
        self.assertEqual(missing_that_matter(A, 10), [(6, 2)])
        self.assertEqual(missing_that_matter(A, 11), [])

    def test_many_archives(self):
        found = 0
        for archive, time, kept, restorable in cases():
            expected = []
            for number in archive.missing():
                other = Archive(archive.scheme(), missing=[n for n in archive.missing() if n != number],
                                full=archive.full(), pinned=archive.pinned(), damaged=archive.damaged())
                if other.is_restorable(number, time):
                    expected.append((number, lost(restorable, number)))
            self.assertEqual(missing_that_matter(archive, time), expected, (parts_of(archive), time))
            found += len(expected) > 1
        self.assertGreater(found, 10)

    def test_numbers_above_the_time_do_not_matter(self):
        a = Archive(Scheme(10, 2), missing=[5, 6, 7])
        self.assertEqual(missing_that_matter(a, 6), [(5, 1), (6, 2)])
        self.assertEqual(missing_that_matter(a, 4), [])

    def test_a_member_of_the_chain_of_a_pinned_number(self):
        a = Archive(Scheme(10, 1), missing=[4700, 4800], pinned=[4705])
        self.assertEqual(missing_that_matter(a, 10 ** 6), [(4700, 700)])
        self.assertEqual(missing_that_matter(a, 4704), [(4700, 700)])
        a = Archive(Scheme(10, 1), missing=[4700], pinned=[4705], full=[4705])
        self.assertEqual(missing_that_matter(a, 10 ** 6), [])

    def test_what_would_be_broken_does_not_matter(self):
        a = Archive(Scheme(10, 2), missing=[4705, 4710], damaged=[4700])
        self.assertEqual(missing_that_matter(a, 4706), [])
        a = Archive(Scheme(10, 2), missing=[4711, 4721], damaged=[4700], full=[4710])
        self.assertEqual(missing_that_matter(a, 4711), [(4711, 1)])

    def test_the_list_belongs_to_the_caller(self):
        missing_that_matter(A, 10).clear()
        self.assertEqual(missing_that_matter(A, 10), [(6, 2)])


if __name__ == "__main__":
    unittest.main()
