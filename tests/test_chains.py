"""Points 6 and 7: levels, parents, chains and blocks."""

import unittest

from snapdigits.schemes import Scheme

from digits import walked_chain, walked_level, walked_parent

BASES = (2, 3, 4, 7, 10, 16, 999, 1000)
LONG = (
    10 ** 30 - 1, 10 ** 29, 123456789012345678901234567890, 900000000000000000000000000001,
    2 ** 99, 2 ** 99 - 1, 2 ** 98 + 2 ** 50 + 1, 3 ** 62, 2 * 3 ** 62 - 3 ** 20,
    7 ** 35 + 7 ** 34, 1000 ** 9 * 999, 999 ** 10,
)


class Levels(unittest.TestCase):

    def test_example(self):
        self.assertEqual(Scheme(10, 2).level(4700), 2)

    def test_zero_has_none(self):
        for base in BASES:
            self.assertIsNone(Scheme(base, 1).level(0))

    def test_one_digit(self):
        for base in BASES:
            for number in range(1, base):
                self.assertEqual(Scheme(base, 1).level(number), 0)

    def test_trailing_zeros(self):
        for base in BASES:
            zeros = 0
            while base ** (zeros + 1) < 10 ** 30:
                self.assertEqual(Scheme(base, 1).level(base ** zeros), zeros)
                self.assertEqual(Scheme(base, 1).level((base - 1) * base ** zeros), zeros)
                zeros += 1

    def test_a_walk_along_the_digits(self):
        for base in BASES:
            s = Scheme(base, 3)
            for number in (*range(2000), *LONG):
                self.assertEqual(s.level(number), walked_level(base, number), (base, number))


class Parents(unittest.TestCase):

    def test_example(self):
        self.assertEqual(Scheme(10, 2).parent(4700), 4000)

    def test_zero_has_none(self):
        for base in BASES:
            self.assertIsNone(Scheme(base, 1).parent(0))

    def test_one_digit(self):
        for base in BASES:
            for number in range(1, base):
                self.assertEqual(Scheme(base, 1).parent(number), 0)

    def test_trailing_zeros(self):
        self.assertEqual(Scheme(10, 1).parent(3 * 10 ** 28), 0)
        self.assertEqual(Scheme(10, 1).parent(73 * 10 ** 28), 7 * 10 ** 29)
        self.assertEqual(Scheme(2, 1).parent(3 * 2 ** 90), 2 ** 91)

    def test_a_walk_along_the_digits(self):
        for base in BASES:
            s = Scheme(base, 3)
            for number in (*range(2000), *LONG):
                self.assertEqual(s.parent(number), walked_parent(base, number), (base, number))


class Chains(unittest.TestCase):

    def test_example(self):
        self.assertEqual(Scheme(10, 2).chain(4705), [4705, 4700, 4000, 0])

    def test_zero(self):
        for base in BASES:
            self.assertEqual(Scheme(base, 1).chain(0), [0])

    def test_one_digit(self):
        for base in BASES:
            for number in range(1, base):
                self.assertEqual(Scheme(base, 1).chain(number), [number, 0])

    def test_trailing_zeros(self):
        self.assertEqual(Scheme(10, 1).chain(10 ** 29), [10 ** 29, 0])
        self.assertEqual(
            Scheme(10, 1).chain(5 * 10 ** 29 + 6 * 10 ** 3),
            [5 * 10 ** 29 + 6 * 10 ** 3, 5 * 10 ** 29, 0])

    def test_every_digit_is_nonzero(self):
        chain = Scheme(2, 1).chain(2 ** 99 - 1)
        self.assertEqual(chain, [2 ** 99 - 2 ** k for k in range(100)])

    def test_a_walk_along_the_digits(self):
        for base in BASES:
            s = Scheme(base, 3)
            for number in (*range(2000), *LONG):
                self.assertEqual(s.chain(number), walked_chain(base, number), (base, number))

    def test_the_list_belongs_to_the_caller(self):
        s = Scheme(10, 2)
        for number, expected in ((4705, [4705, 4700, 4000, 0]), (0, [0])):
            first = s.chain(number)
            kept = s.chain(number)
            first.append("changed")
            first[0] = None
            self.assertEqual(s.chain(number), expected)
            self.assertEqual(kept, expected)

    def test_equal_schemes_answer_equally(self):
        for number in (0, 5, 4705, *LONG):
            self.assertEqual(Scheme(10, 2).chain(number), Scheme(10, 2).chain(number))


class Blocks(unittest.TestCase):

    def test_example(self):
        self.assertEqual(Scheme(10, 2).block(4700), (4700, 4800))
        self.assertIs(Scheme(10, 2).has_in_chain(4705, 4700), True)

    def test_zero(self):
        for base in BASES:
            s = Scheme(base, 1)
            self.assertEqual(s.block(0), (0, None))
            for number in (0, 1, base, *LONG):
                self.assertIs(s.has_in_chain(number, 0), True)
                self.assertIs(s.has_in_chain(0, number), number == 0)

    def test_a_block_is_a_tuple(self):
        for number in (0, 1, 4700):
            self.assertIsInstance(Scheme(10, 2).block(number), tuple)

    def test_one_digit_and_trailing_zeros(self):
        s = Scheme(10, 2)
        self.assertEqual(s.block(7), (7, 8))
        self.assertEqual(s.block(90), (90, 100))
        self.assertEqual(s.block(10 ** 29), (10 ** 29, 2 * 10 ** 29))
        self.assertEqual(s.block(9 * 10 ** 29), (9 * 10 ** 29, 10 ** 30))

    def test_the_ends_of_a_block(self):
        for base in BASES:
            s = Scheme(base, 1)
            for number in (1, base, base ** 2, 5 * base ** 3, *LONG):
                first, after = s.block(number)
                self.assertEqual(first, number)
                self.assertEqual(after, number + base ** walked_level(base, number))
                self.assertIs(s.has_in_chain(first, number), True)
                self.assertIs(s.has_in_chain(first - 1, number), False)
                self.assertIs(s.has_in_chain(after - 1, number), True)
                self.assertIs(s.has_in_chain(after, number), False)

    def test_block_and_chain_and_has_in_chain_agree(self):
        for base in (2, 3, 5, 10):
            s = Scheme(base, 2)
            for number in range(130):
                chain = walked_chain(base, number)
                for ancestor in range(130):
                    first, after = s.block(ancestor)
                    in_block = first <= number and (after is None or number < after)
                    answer = s.has_in_chain(number, ancestor)
                    self.assertIs(answer, ancestor in chain, (base, number, ancestor))
                    self.assertIs(answer, in_block, (base, number, ancestor))

    def test_members_of_long_chains(self):
        for base in BASES:
            s = Scheme(base, 2)
            for number in LONG:
                for member in walked_chain(base, number):
                    self.assertIs(s.has_in_chain(number, member), True)
                    self.assertIs(s.has_in_chain(member, number), member == number)

    def test_blocks_are_nested_or_disjoint(self):
        for base in (2, 3, 10):
            s = Scheme(base, 1)
            blocks = [s.block(number) for number in range(1, 120)]
            for first, after in blocks:
                for other, behind in blocks:
                    apart = after <= other or behind <= first
                    inside = first <= other and behind <= after
                    around = other <= first and after <= behind
                    self.assertTrue(apart or inside or around)


if __name__ == "__main__":
    unittest.main()
