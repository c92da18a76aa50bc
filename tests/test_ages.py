"""Points 16 to 20: restore points, losses, safe ages and gaps."""

import unittest

from snapdigits import ages
from snapdigits.ages import first_time_of_loss, greatest_loss, loss, restore_point, safe_age, widest_gap
from snapdigits.kept import kept_between, next_kept, previous_kept
from snapdigits.schemes import Scheme

from raising import RaisingCase
from samples import OwnInt, no_numbers
from walks import LONG, LONG_TIMES, SMALL, named, schemes, soon, walked_kept

PARAMETERS = {
    "restore_point": ["scheme", "time", "age"],
    "loss": ["scheme", "time", "age"],
    "greatest_loss": ["scheme", "age"],
    "first_time_of_loss": ["scheme", "age", "least"],
    "safe_age": ["scheme", "most"],
    "widest_gap": ["scheme", "time"],
}
S = Scheme(10, 2)
LONG_AGES = (0, 1, 2, 3, 11, 12, 10 ** 6, 10 ** 6 + 1, 10 ** 15, 2 ** 64, 10 ** 28 + 7, 5 * 10 ** 28)


def long_times_and_ages():
    return [(time, age) for time in LONG_TIMES for age in LONG_AGES if age <= time]


def walked_point(scheme, time, age):
    """Goes back from the state, number by number, to the first one that is kept."""
    number = time - age
    while not scheme.is_kept(number, time):
        number -= 1
    return number


def walked_losses(scheme, age, last):
    return [time - age - walked_point(scheme, time, age) for time in range(age, last + 1)]


def rule_of_the_greatest_loss(scheme, age):
    """Point 17 in its own words, with powers."""
    base, factor = scheme.base(), scheme.factor()
    if factor == 1:
        return 0 if age in (0, 1) else None
    j = 0
    while age > (factor - 1) * base ** j + 1:
        j += 1
    return base ** j - 1


class RestorePoints(unittest.TestCase):

    def test_examples(self):
        self.assertEqual(restore_point(S, 4733, 20), 4700)
        self.assertEqual(loss(S, 4733, 20), 13)

    def test_all_small_times_and_ages(self):
        for scheme in schemes(SMALL):
            for time in (*range(131), 200, 243, 299):
                for age in range(time + 1):
                    point = walked_point(scheme, time, age)
                    told = (named(scheme), time, age)
                    self.assertEqual(restore_point(scheme, time, age), point, told)
                    self.assertEqual(loss(scheme, time, age), time - age - point, told)

    def test_ends(self):
        for scheme in schemes(SMALL + LONG):
            for time in (0, 1, 2, 50, *LONG_TIMES):
                self.assertEqual((restore_point(scheme, time, 0), loss(scheme, time, 0)), (time, 0))
                self.assertEqual((restore_point(scheme, time, time), loss(scheme, time, time)), (0, 0))

    def test_long(self):
        for scheme in schemes(LONG):
            for time, age in long_times_and_ages():
                point = restore_point(scheme, time, age)
                told = (named(scheme), time, age)
                self.assertTrue(scheme.is_kept(point, time), told)
                self.assertLessEqual(point, time - age, told)
                following = next_kept(scheme, time, point + 1)
                self.assertTrue(following is None or following > time - age, told)
                self.assertEqual(loss(scheme, time, age), time - age - point, told)


class GreatestLosses(unittest.TestCase):

    def test_example(self):
        self.assertEqual(greatest_loss(S, 20), 99)

    def test_reached_and_not_exceeded_near(self):
        for scheme in schemes(((2, 2), (2, 3), (2, 7), (3, 2), (3, 4), (5, 2), (10, 2))):
            for age in range(12):
                greatest = greatest_loss(scheme, age)
                self.assertEqual(max(walked_losses(scheme, age, 450)), greatest, (named(scheme), age))

    def test_the_words_of_the_rule(self):
        for scheme in schemes(SMALL + LONG):
            for age in (*range(300), *LONG_AGES, *LONG_TIMES):
                expected = rule_of_the_greatest_loss(scheme, age)
                self.assertEqual(greatest_loss(scheme, age), expected, (named(scheme), age))

    def test_the_factor_1(self):
        for base in (2, 3, 10, 1000):
            s = Scheme(base, 1)
            self.assertEqual([greatest_loss(s, 0), greatest_loss(s, 1)], [0, 0])
            for age in (2, 3, base, 10 ** 29):
                self.assertIsNone(greatest_loss(s, age))
            # Beyond each bound there is a greater loss.
            for power in range(1, 9):
                self.assertEqual(loss(s, base ** power + 1, 2), base ** power - 1)

    def test_reached_and_not_exceeded_far(self):
        for scheme in schemes(LONG):
            for time, age in long_times_and_ages():
                greatest = greatest_loss(scheme, age)
                if greatest is not None:
                    self.assertEqual(loss(scheme, greatest + age, age), greatest, (named(scheme), age))
                    self.assertLessEqual(loss(scheme, time, age), greatest, (named(scheme), time, age))


class FirstTimes(unittest.TestCase):

    def test_examples(self):
        self.assertEqual(first_time_of_loss(S, 20, 99), 119)
        self.assertEqual(first_time_of_loss(S, 20, 10), 31)

    def test_near(self):
        for scheme in schemes(SMALL):
            for age in (*range(14), 34, 35, 61, 62, 63, 64):
                losses = walked_losses(scheme, age, 330)
                for least in (*range(30), 80, 81, 82, 99, 100, 124, 127, 128):
                    later = [age + at for at, lost in enumerate(losses) if lost >= least]
                    found = first_time_of_loss(scheme, age, least)
                    told = (named(scheme), age, least)
                    if later:
                        self.assertEqual(found, later[0], told)
                    else:
                        self.assertTrue(found is None or found > 330, told)

    def test_none_exactly_above_the_greatest_loss(self):
        for scheme in schemes(SMALL + LONG):
            for age in (*range(40), *LONG_AGES):
                self.assertEqual(first_time_of_loss(scheme, age, 0), age)
                greatest = greatest_loss(scheme, age)
                if greatest is None:
                    self.assertIsNotNone(first_time_of_loss(scheme, age, 10 ** 29))
                else:
                    self.assertEqual(first_time_of_loss(scheme, age, greatest), greatest + age)
                    self.assertIsNone(first_time_of_loss(scheme, age, greatest + 1))
                    self.assertIsNone(first_time_of_loss(scheme, age, 10 ** 30 + greatest))

    def test_far_times_have_the_loss(self):
        for scheme in schemes(LONG):
            for age in LONG_AGES:
                for least in (1, 2, 9, 10, 1000, 1001, 2 ** 40, 10 ** 20 + 1, 3 ** 50, 10 ** 28):
                    found = first_time_of_loss(scheme, age, least)
                    if found is not None:
                        told = (named(scheme), age, least)
                        self.assertGreaterEqual(loss(scheme, found, age), least, told)
                        self.assert_none_earlier(scheme, age, least, found)

    def assert_none_earlier(self, scheme, age, least, found):
        """Looks at some earlier times, near and far ones."""
        for back in (1, 2, 3, scheme.base(), scheme.base() ** 2, 10 ** 6, 10 ** 12 + 1):
            if found - back >= age:
                self.assertLess(loss(scheme, found - back, age), least, (named(scheme), age, least, back))

    def test_far_the_first_of_all(self):
        # With the factor 1, 5 * 10 ** 20 lives until 6 * 10 ** 20, and all up to 6 * 10 ** 20 - 1 are gone then.
        self.assertEqual(first_time_of_loss(Scheme(10, 1), 2, 5 * 10 ** 20), 6 * 10 ** 20 + 1)
        # With the factor 2, 10 ** 20 lives until 3 * 10 ** 20, when it is the state of this age itself.
        s = Scheme(10, 2)
        age = 2 * 10 ** 20
        self.assertEqual(first_time_of_loss(s, age, 10 ** 20 + 1), 10 ** 20 + 1 + age)
        self.assertEqual(first_time_of_loss(s, age, 10 ** 20), 10 ** 20 + 1 + age)
        self.assertEqual(first_time_of_loss(s, age + 1, 10 ** 20), 10 ** 20 + 1 + age)


class SafeAges(unittest.TestCase):

    def test_example(self):
        self.assertEqual(safe_age(S, 50), 11)

    def test_the_greatest_such_age(self):
        for scheme in schemes(SMALL + LONG):
            for most in (*range(130), 998, 999, 1000, *LONG_TIMES):
                age = safe_age(scheme, most)
                told = (named(scheme), most)
                self.assertLessEqual(greatest_loss(scheme, age), most, told)
                beyond = greatest_loss(scheme, age + 1)
                self.assertTrue(beyond is None or beyond > most, told)

    def test_the_factor_1(self):
        for base in (2, 10, 1000):
            for most in (0, 1, 999, 10 ** 29):
                self.assertEqual(safe_age(Scheme(base, 1), most), 1)


class Gaps(unittest.TestCase):

    def test_example(self):
        self.assertEqual(widest_gap(S, 4733), (0, 3000))

    def assert_widest(self, found, kept, told):
        pairs = list(zip(kept, kept[1:]))
        widest = max(after - number for number, after in pairs)
        self.assertEqual(found, min(pair for pair in pairs if pair[1] - pair[0] == widest), told)
        self.assertIsInstance(found, tuple)

    def test_all_small_times(self):
        for scheme in schemes(SMALL):
            for time in range(1, 300):
                self.assert_widest(widest_gap(scheme, time), walked_kept(scheme, time), (named(scheme), time))

    def test_the_least_of_several(self):
        self.assertEqual(widest_gap(Scheme(2, 60), 40), (0, 1))
        # 0, 4, 8, 12, 14, 16 .. are kept at time 20.
        self.assertEqual(widest_gap(Scheme(2, 4), 20), (0, 4))

    def test_none_at_time_0_only(self):
        for scheme in schemes(SMALL + LONG):
            self.assertIsNone(widest_gap(scheme, 0))
            self.assertEqual(widest_gap(scheme, 1), (0, 1))

    def test_long(self):
        for scheme in schemes(((2, 1), (2, 2), (2, 3), (3, 1), (3, 5), (10, 1), (10, 2), (1000, 1))):
            for time in LONG_TIMES:
                kept = kept_between(scheme, time, 0, time)
                self.assert_widest(widest_gap(scheme, time), kept, (named(scheme), time))

    def test_long_with_great_factors(self):
        with soon():
            for scheme in schemes(((2, 10 ** 6), (10, 999), (1000, 10 ** 6))):
                for time in LONG_TIMES:
                    number, after = widest_gap(scheme, time)
                    self.assertTrue(scheme.is_kept(number, time) and scheme.is_kept(after, time))
                    self.assertEqual(previous_kept(scheme, time, after - 1), number)


class Interface(RaisingCase):

    def test_parameters(self):
        for name, parameters in PARAMETERS.items():
            self.assert_parameters(getattr(ages, name), parameters)

    def test_arguments_by_name(self):
        self.assertEqual(restore_point(age=20, time=4733, scheme=S), 4700)
        self.assertEqual(loss(S, age=20, time=4733), 13)
        self.assertEqual(greatest_loss(age=20, scheme=S), 99)
        self.assertEqual(first_time_of_loss(S, least=99, age=20), 119)
        self.assertEqual(safe_age(most=50, scheme=S), 11)
        self.assertEqual(widest_gap(time=4733, scheme=S), (0, 3000))

    def test_an_int_of_a_subclass(self):
        self.assertEqual(loss(S, OwnInt(4733), OwnInt(20)), 13)


class WrongInputs(RaisingCase):

    def test_times(self):
        for value in no_numbers():
            with self.subTest(kind=value.__class__):
                self.assert_time(value, widest_gap, S, value)
                for call in (restore_point, loss):
                    for age in (0, 5, -1, None, [value]):
                        self.assert_time(value, call, S, value, age)

    def test_ages(self):
        for value in no_numbers():
            with self.subTest(kind=value.__class__):
                for call in (restore_point, loss):
                    for time in (0, 5, 10 ** 29):
                        self.assert_number(value, call, S, time, value)
                for factor in (1, 2):
                    self.assert_number(value, greatest_loss, Scheme(10, factor), value)
                    for least in (0, 5, -1, None, [value]):
                        self.assert_number(value, first_time_of_loss, Scheme(10, factor), value, least)

    def test_ages_above_the_time(self):
        for call in (restore_point, loss):
            for time, age in ((0, 1), (5, 6), (5, 10 ** 29), (10 ** 29, 10 ** 29 + 1)):
                self.assert_number(age, call, S, time, age)
                self.assertEqual(call(S, time, time), 0)

    def test_bounds(self):
        for value in no_numbers():
            with self.subTest(kind=value.__class__):
                for age in (0, 1, 20):
                    self.assert_bound("least", first_time_of_loss, S, age, value)
                    self.assert_bound("least", first_time_of_loss, Scheme(2, 1), age, least=value)
                self.assert_bound("most", safe_age, S, value)
                self.assert_bound("most", safe_age, Scheme(2, 1), most=value)

    def test_arguments_stay_as_they_are(self):
        value = [1, [2]]
        self.assert_time(value, loss, S, value, value)
        self.assert_number(value, loss, S, 5, value)
        self.assert_bound("most", safe_age, S, value)
        self.assertEqual(value, [1, [2]])
        self.assertTrue(S == Scheme(10, 2))


if __name__ == "__main__":
    unittest.main()
