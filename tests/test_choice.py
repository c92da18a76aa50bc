"""Points 51 to 54: the choice of a scheme."""

import unittest

from snapdigits import choice
from snapdigits.ages import greatest_loss
from snapdigits.choice import fewest_kept, is_enough, least_factor, schemes_for
from snapdigits.kept import count_kept
from snapdigits.schemes import Scheme

from raising import RaisingCase
from samples import OwnInt, no_integers, no_numbers
from walks import LONG_TIMES, named, soon

PARAMETERS = {
    "least_factor": ["base", "age", "loss"],
    "is_enough": ["scheme", "age", "loss"],
    "schemes_for": ["bases", "age", "loss"],
    "fewest_kept": ["bases", "age", "loss", "time"],
}
VALID = {"base": 10, "age": 1000, "loss": 99, "scheme": Scheme(10, 11), "bases": [2, 10], "time": 5000}


def is_good(base, factor, age, loss):
    found = greatest_loss(Scheme(base, factor), age)
    return found is not None and found <= loss


def tried_factor(base, age, loss):
    """The least factor by trying 1, 2, 3 and so on, for the age and all lower ones."""
    factor = 1
    while not all(is_good(base, factor, lower, loss) for lower in range(age + 1)):
        factor += 1
    return factor


class LeastFactors(unittest.TestCase):

    def test_examples(self):
        self.assertEqual([least_factor(10, 1000, 99), least_factor(2, 10, 0)], [11, 10])

    def test_by_trying(self):
        for base in (2, 3, 4, 10):
            for age in (*range(0, 14), 20, 31, 32, 33, 34):
                for loss in (*range(0, 11), 26, 27, 63, 64, 98, 99, 100):
                    expected = tried_factor(base, age, loss)
                    self.assertEqual(least_factor(base, age, loss), expected, (base, age, loss))

    def test_ages_0_and_1(self):
        for base in (2, 10, 1000):
            for loss in (0, 5, 10 ** 29):
                self.assertEqual([least_factor(base, age, loss) for age in (0, 1, 2)], [1, 1, 2])

    def test_the_greatest_factor_and_none(self):
        self.assertEqual(least_factor(2, 10 ** 6, 0), 10 ** 6)
        self.assertIsNone(least_factor(2, 10 ** 6 + 1, 0))
        self.assertEqual(least_factor(2, 10 ** 6 + 1, 1), 5 * 10 ** 5 + 1)
        self.assertEqual(least_factor(1000, (10 ** 6 - 1) * 1000 + 1, 999), 10 ** 6)
        self.assertIsNone(least_factor(1000, (10 ** 6 - 1) * 1000 + 2, 999))
        self.assertIsNone(least_factor(1000, (10 ** 6 - 1) * 1000 + 1, 998))
        self.assertIsNone(least_factor(10, 10 ** 29, 10 ** 20))

    def test_thirty_digits(self):
        self.assertEqual(least_factor(10, 10 ** 29, 10 ** 25 - 1), 10 ** 4 + 1)
        self.assertEqual(least_factor(10, 10 ** 29 + 1, 10 ** 25 - 1), 10 ** 4 + 1)
        self.assertEqual(least_factor(10, 10 ** 29 + 2, 10 ** 25 - 1), 10 ** 4 + 2)
        self.assertEqual(least_factor(10, 10 ** 29, 10 ** 25 - 2), 10 ** 5 + 1)
        self.assertEqual(least_factor(2, 10 ** 29, 10 ** 30 - 1), 2)
        for base in (2, 3, 10, 1000):
            for age in LONG_TIMES:
                for loss in (age // 10 ** 5, age // 100, age):
                    factor = least_factor(base, age, loss)
                    if factor is not None:
                        self.assertTrue(is_good(base, factor, age, loss))
                        self.assertFalse(is_good(base, factor - 1, age, loss))


class Enough(unittest.TestCase):

    def test_factors_around_the_least(self):
        for base in (2, 3, 10):
            for age in (0, 1, 2, 5, 11, 12, 40):
                for loss in (0, 1, 2, 8, 9, 10, 99):
                    least = least_factor(base, age, loss)
                    for factor in sorted({1, max(1, least - 1), least, least + 1, 10 ** 6}):
                        expected = factor >= least
                        self.assertIs(is_enough(Scheme(base, factor), age, loss), expected, (base, factor, age, loss))
                        self.assertIs(is_good(base, factor, age, loss), expected)

    def test_no_factor_is_enough(self):
        self.assertIs(is_enough(Scheme(2, 10 ** 6), 10 ** 6, 0), True)
        self.assertIs(is_enough(Scheme(2, 10 ** 6), 10 ** 6 + 1, 0), False)


class Schemes(unittest.TestCase):

    def test_least_factors(self):
        found = schemes_for([2, 3, 10], 1000, 99)
        self.assertEqual(found, [Scheme(2, 17), Scheme(3, 14), Scheme(10, 11)])
        self.assertEqual([named(scheme) for scheme in schemes_for([2, 5, 1000], 1, 0)], [(2, 1), (5, 1), (1000, 1)])

    def test_without_those_that_need_too_much(self):
        found = [named(one) for one in schemes_for([2, 10, 100], 10 ** 7, 99)]
        self.assertEqual(found, [(2, 156251), (10, 100001), (100, 100001)])
        self.assertEqual([named(one) for one in schemes_for([7, 10, 11], 5 * 10 ** 6, 9)], [(7, 714287), (10, 500001)])
        self.assertEqual(schemes_for([2, 3, 4], 10 ** 29, 0), [])

    def test_fewest(self):
        for age, loss in ((0, 0), (2, 0), (10, 3), (100, 9), (1000, 99), (1000, 1000)):
            bases = [2, 3, 4, 5, 8, 9, 10, 16, 100, 1000]
            for time in (0, 1, 5, 100, 1000, 12345, 10 ** 29):
                triples = [(count_kept(one, time), one.base(), one.factor()) for one in schemes_for(bases, age, loss)]
                fewest = min(count for count, _, _ in triples)
                expected = [triple for triple in triples if triple[0] == fewest][0]
                self.assertEqual(fewest_kept(bases, age, loss, time), expected, (age, loss, time))

    def test_the_least_base_of_several(self):
        self.assertEqual(fewest_kept([3, 5, 7], 1, 0, 0), (1, 3, 1))
        self.assertEqual(fewest_kept([5, 7], 0, 0, 1), (2, 5, 1))
        self.assertEqual(fewest_kept([600, 700, 1000], 400, 598, 500), (402, 600, 400))
        self.assertEqual(fewest_kept([600, 700, 1000], 400, 999, 500), (4, 600, 2))

    def test_no_scheme(self):
        self.assertIsNone(fewest_kept([2, 3, 4], 10 ** 29, 0, 5))
        self.assertIsNone(fewest_kept([2], 10 ** 6 + 1, 0, 0))

    def test_50_bases_of_thirty_digits(self):
        with soon():
            bases = list(range(2, 52))
            found = fewest_kept(bases, 10 ** 20, 10 ** 18, 10 ** 29)
            self.assertIn(found[1], bases)
            self.assertEqual(found[0], count_kept(Scheme(found[1], found[2]), 10 ** 29))

    def test_the_list_belongs_to_the_caller(self):
        bases = [2, 10]
        schemes_for(bases, 10, 3).clear()
        self.assertEqual(len(schemes_for(bases, 10, 3)), 2)
        self.assertEqual(bases, [2, 10])


class Wrong(RaisingCase):

    def test_parameters(self):
        for name, parameters in PARAMETERS.items():
            self.assert_parameters(getattr(choice, name), parameters)

    def test_arguments_by_name_and_equal_results(self):
        for name, parameters in PARAMETERS.items():
            call = getattr(choice, name)
            by_name = call(**{part: VALID[part] for part in reversed(parameters)})
            self.assertEqual(call(*[VALID[part] for part in parameters]), by_name, name)

    def test_base(self):
        for value in (*no_numbers(), 0, 1, 1001, 10 ** 29):
            for others in ((5, 5), (-1, 5), (None, [value])):
                self.assert_bound("base", least_factor, value, *others)
        self.assertEqual([least_factor(base, 2, 0) for base in (2, 1000, OwnInt(5))], [2, 2, 2])

    def test_age_and_loss(self):
        for value in no_numbers():
            for first, call in ((10, least_factor), (Scheme(10, 2), is_enough), ([2, 10], schemes_for)):
                for loss in (0, -1, None, [value]):
                    self.assert_bound("age", call, first, value, loss)
                for age in (0, 1, 10, 10 ** 29):
                    self.assert_bound("loss", call, first, age, value)
            for loss in (0, -1, None, [value]):
                for time in (0, -1, None):
                    self.assert_bound("age", fewest_kept, [2, 10], value, loss, time)
            for time in (0, -1, None):
                self.assert_bound("loss", fewest_kept, [2, 10], 10, value, time)

    def test_time(self):
        for value in no_numbers():
            self.assert_time(value, fewest_kept, [2, 10], 10, 3, value)
            self.assert_time(value, fewest_kept, [2], 10 ** 29, 0, value)

    def test_bases(self):
        wrong = [value for value in no_integers() if not isinstance(value, list)]
        wrong += [(2, 10), {2: 10}, 10, [], [1], [2, 2], [3, 2], [2, 1001], [2, -3], [2, [3]], [2, 10, True]]
        wrong += [[2, value] for value in no_integers()]
        wrong += [list(range(2, 53)), list(range(950, 1001)), [0] * 51, [2, 3] * 30]
        for value in wrong:
            for others in ((5, 5), (-1, 5), (None, [value])):
                self.assert_bound("bases", schemes_for, value, *others)
                self.assert_bound("bases", fewest_kept, value, *others, -1)

    def test_50_bases_and_51(self):
        self.assertEqual(len(schemes_for(list(range(2, 52)), 10, 3)), 50)
        self.assertEqual(len(schemes_for(list(range(951, 1001)), 10, 3)), 50)
        self.assert_bound("bases", schemes_for, list(range(2, 53)), 10, 3)
        self.assertEqual(len(schemes_for([1000], 10, 3)), 1)


if __name__ == "__main__":
    unittest.main()
