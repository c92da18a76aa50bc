"""Points 8 and 9: last times, and what is kept."""

import unittest

from snapdigits.schemes import Scheme

from digits import walked_chain, walked_level, walked_parent

SCHEMES = ((2, 1), (2, 2), (2, 5), (3, 1), (3, 4), (10, 1), (10, 2), (1000, 10 ** 6))
LONG = (10 ** 30 - 1, 10 ** 29, 123456789012345678901234567890, 2 ** 99, 2 ** 99 - 2 ** 40)


def long_life(base, factor, number):
    """The last time of a number above 0, by a walk along its digits."""
    return number + factor * base ** walked_level(base, number)


class LastTimes(unittest.TestCase):

    def test_example(self):
        self.assertEqual(Scheme(10, 2).last_time(4700), 4900)

    def test_zero_lives_without_end(self):
        for base, factor in SCHEMES:
            self.assertIsNone(Scheme(base, factor).last_time(0))

    def test_one_digit(self):
        for base, factor in SCHEMES:
            for number in range(1, base):
                self.assertEqual(Scheme(base, factor).last_time(number), number + factor)

    def test_trailing_zeros(self):
        self.assertEqual(Scheme(10, 3).last_time(10 ** 29), 4 * 10 ** 29)
        self.assertEqual(Scheme(2, 10 ** 6).last_time(2 ** 98), (10 ** 6 + 1) * 2 ** 98)

    def test_a_walk_along_the_digits(self):
        for base, factor in SCHEMES:
            s = Scheme(base, factor)
            for number in (*range(1, 1000), *LONG):
                self.assertEqual(s.last_time(number), long_life(base, factor, number))


class Kept(unittest.TestCase):

    def test_example(self):
        s = Scheme(10, 2)
        self.assertIs(s.is_kept(4700, 4900), True)
        self.assertIs(s.is_kept(4700, 4901), False)

    def test_zero_is_kept_at_every_time(self):
        for base, factor in SCHEMES:
            for time in (0, 1, 2, 1000, 10 ** 6, *LONG):
                self.assertIs(Scheme(base, factor).is_kept(0, time), True)

    def test_ends_of_a_life(self):
        for base, factor in SCHEMES:
            s = Scheme(base, factor)
            for number in (1, base - 1, base, 3 * base ** 2, *LONG):
                last = long_life(base, factor, number)
                answers = [s.is_kept(number, time) for time in (number - 1, number, last, last + 1)]
                self.assertEqual(answers, [False, True, True, False])
                self.assertIs(s.is_kept(number, 0), False)

    def test_all_small_times(self):
        for base, factor in SCHEMES:
            s = Scheme(base, factor)
            for number in range(1, 60):
                last = long_life(base, factor, number)
                for time in range(150):
                    self.assertIs(s.is_kept(number, time), number <= time <= last)

    def test_what_the_document_lists(self):
        kept = [n for n in range(30) if Scheme(2, 2).is_kept(n, 10)]
        self.assertEqual(kept, [0, 4, 6, 8, 9, 10])
        kept = [n for n in range(30) if Scheme(2, 1).is_kept(n, 20)]
        self.assertEqual(kept, [0, 16, 18, 19, 20])
        kept = [n for n in range(30) if Scheme(10, 2).is_kept(n, 12)]
        self.assertEqual(kept, [0, 10, 11, 12])


class ChainsOfKeptNumbers(unittest.TestCase):

    def test_each_member_is_kept(self):
        for base in (2, 3, 4, 10):
            for factor in (1, 2, 3):
                s = Scheme(base, factor)
                for time in range(130):
                    for number in range(time + 1):
                        if s.is_kept(number, time):
                            members = s.chain(number)
                            self.assertTrue(all(s.is_kept(member, time) for member in members))

    def test_long_numbers(self):
        for base, factor in SCHEMES:
            s = Scheme(base, factor)
            for number in LONG:
                for time in (number, s.last_time(number)):
                    for member in walked_chain(base, number):
                        self.assertIs(s.is_kept(member, time), True)

    def test_the_bound_of_the_age_of_a_parent(self):
        for base, factor in SCHEMES:
            s = Scheme(base, factor)
            for number in (*range(1, 500), *LONG):
                parent = s.parent(number)
                self.assertEqual(parent, walked_parent(base, number))
                if parent > 0:
                    bound = (factor + base - 1) * base ** s.level(number)
                    self.assertLessEqual(s.last_time(number) - parent, bound)
                    self.assertLessEqual(bound, factor * base ** s.level(parent))


if __name__ == "__main__":
    unittest.main()
