"""Points 2, 4 and 5: how schemes are made, compared and asked."""

import inspect
import unittest
from unittest import mock

from snapdigits.errors import InvalidScheme
from snapdigits.schemes import Scheme

from raising import RaisingCase
from samples import EqualToAll, OwnInt, no_integers, no_numbers

PARAMETERS = {
    "base": [], "factor": [], "level": ["number"], "parent": ["number"],
    "chain": ["number"], "block": ["number"], "has_in_chain": ["number", "ancestor"],
    "last_time": ["number"], "is_kept": ["number", "time"],
}
OF_ONE_NUMBER = ("level", "parent", "chain", "block", "last_time")


class Interface(unittest.TestCase):

    def test_methods_and_parameters_stand_in_the_class(self):
        for name, parameters in PARAMETERS.items():
            with self.subTest(name):
                method = vars(Scheme)[name]
                self.assertEqual(list(inspect.signature(method).parameters)[1:], parameters)
        self.assertIn("__eq__", vars(Scheme))

    def test_arguments_by_name(self):
        s = Scheme(factor=2, base=10)
        self.assertEqual([s.base(), s.factor()], [10, 2])
        self.assertEqual([s.level(number=4700), s.parent(number=4700)], [2, 4000])
        self.assertEqual(s.chain(number=4705), [4705, 4700, 4000, 0])
        self.assertEqual(s.block(number=4700), (4700, 4800))
        self.assertIs(s.has_in_chain(ancestor=4700, number=4705), True)
        self.assertIs(s.has_in_chain(4700, ancestor=4705), False)
        self.assertEqual(s.last_time(number=4700), 4900)
        self.assertIs(s.is_kept(time=4900, number=4700), True)
        self.assertIs(s.is_kept(4700, time=4901), False)


class Making(unittest.TestCase):

    def assert_invalid(self, part, *arguments, **named):
        with self.assertRaises(InvalidScheme) as caught:
            Scheme(*arguments, **named)
        self.assertEqual(caught.exception.part, part)

    def test_ends_of_the_ranges(self):
        for base in (2, 3, 999, 1000):
            for factor in (1, 2, 10 ** 6 - 1, 10 ** 6):
                s = Scheme(base, factor)
                self.assertEqual((s.base(), s.factor()), (base, factor))

    def test_an_int_of_a_subclass(self):
        self.assertTrue(Scheme(OwnInt(2), OwnInt(1)) == Scheme(2, 1))

    def test_invalid_bases(self):
        for base in (1, 0, -1, -2, -10, 1001, 10 ** 30, OwnInt(1)):
            self.assert_invalid("base", base, 2)

    def test_invalid_factors(self):
        for factor in (0, -1, -10 ** 6, 10 ** 6 + 1, 10 ** 30, OwnInt(0)):
            self.assert_invalid("factor", 10, factor)

    def test_other_objects(self):
        for value in no_integers():
            with self.subTest(kind=value.__class__):
                self.assert_invalid("base", value, 2)
                self.assert_invalid("factor", 10, value)
                self.assert_invalid("factor", 10, factor=value)

    def test_the_base_comes_first(self):
        self.assert_invalid("base", 1, 0)
        self.assert_invalid("base", 1001, 10 ** 6 + 1)
        for value in no_integers():
            with self.subTest(kind=value.__class__):
                self.assert_invalid("base", value, value)
                self.assert_invalid("base", 1, value)
                self.assert_invalid("base", value, 0)

    def test_an_error_changes_nothing(self):
        s = Scheme(10, 2)
        for arguments in ((1, 5), (5, 0), (None, None)):
            self.assertRaises(InvalidScheme, s.__init__, *arguments)
            self.assertEqual((s.base(), s.factor()), (10, 2))


class Equality(unittest.TestCase):

    def assert_different(self, one, other):
        self.assertIs(one == other, False)
        self.assertIs(one != other, True)

    def test_equal_by_both_values(self):
        for base, factor in ((2, 1), (10, 2), (1000, 10 ** 6)):
            self.assertIs(Scheme(base, factor) == Scheme(base, factor), True)
            self.assertIs(Scheme(base, factor) != Scheme(base, factor), False)

    def test_one_value_differs(self):
        self.assert_different(Scheme(10, 2), Scheme(10, 3))
        self.assert_different(Scheme(10, 2), Scheme(9, 2))
        self.assert_different(Scheme(10, 2), Scheme(2, 10))

    def test_equal_to_nothing_else(self):
        class Lookalike:
            base_value, factor_value = 10, 2

            def base(self):
                return 10

            def factor(self):
                return 2

        others = no_integers() + [
            10, 2, (10, 2), [10, 2], "Scheme(10, 2)", Scheme, Lookalike(), mock.ANY, EqualToAll(),
        ]
        for other in others:
            with self.subTest(kind=other.__class__):
                self.assert_different(Scheme(10, 2), other)


class WrongNumbersAndTimes(RaisingCase):

    def test_methods_of_one_number(self):
        s = Scheme(10, 2)
        for value in no_numbers():
            for name in OF_ONE_NUMBER:
                with self.subTest(name, kind=value.__class__):
                    self.assert_number(value, getattr(s, name), value)

    def test_has_in_chain(self):
        s = Scheme(10, 2)
        for value in no_numbers():
            with self.subTest(kind=value.__class__):
                for good in (0, 5, 4700):
                    self.assert_number(value, s.has_in_chain, value, good)
                    self.assert_number(value, s.has_in_chain, good, value)
                first, second = [value], [value]
                self.assert_number(first, s.has_in_chain, first, second)
                self.assert_number(value, s.has_in_chain, value, second)
                self.assert_number(second, s.has_in_chain, second, value)

    def test_is_kept(self):
        s = Scheme(10, 2)
        for value in no_numbers():
            with self.subTest(kind=value.__class__):
                for good in (0, 5, 4700):
                    self.assert_number(value, s.is_kept, value, good)
                    self.assert_time(value, s.is_kept, good, value)
                self.assert_number(value, s.is_kept, value, value)
                self.assert_number(value, s.is_kept, value, -1)
                self.assert_number(value, s.is_kept, value, None)

    def test_arguments_stay_as_they_are(self):
        s = Scheme(10, 2)
        value = [3, [4]]
        for name in OF_ONE_NUMBER:
            self.assert_number(value, getattr(s, name), value)
        self.assert_time(value, s.is_kept, 5, value)
        self.assertEqual(value, [3, [4]])

    def test_an_error_changes_nothing(self):
        s = Scheme(10, 2)
        self.assert_number(-1, s.chain, -1)
        self.assert_time(-1, s.is_kept, 5, -1)
        self.assertTrue(s == Scheme(10, 2))
        self.assertEqual(s.chain(4705), [4705, 4700, 4000, 0])


class Examples(unittest.TestCase):

    def test_e01(self):
        s = Scheme(10, 2)
        self.assertEqual(
            [s.level(4700), s.parent(4700), s.chain(4705), s.block(4700)],
            [2, 4000, [4705, 4700, 4000, 0], (4700, 4800)])

    def test_e02(self):
        s = Scheme(10, 2)
        self.assertEqual(
            [s.last_time(4700), s.is_kept(4700, 4900), s.is_kept(4700, 4901)],
            [4900, True, False])

    def test_e03(self):
        with self.assertRaises(InvalidScheme) as caught:
            Scheme(1, 2)
        self.assertEqual(caught.exception.part, "base")


if __name__ == "__main__":
    unittest.main()
