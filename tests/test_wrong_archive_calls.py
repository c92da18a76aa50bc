"""Points 2, 4 and 25 to 40: the interfaces of damage, repair, gaps and space, and wrong inputs."""

import unittest

from snapdigits import damage, gaps, repair, space
from snapdigits.archives import Archive
from snapdigits.schemes import Scheme

from raising import RaisingCase
from samples import OwnInt, no_numbers

S = Scheme(10, 2)
A = Archive(S, missing=[6], full=[7], pinned=[5], damaged=[8])
PARAMETERS = {
    damage: {
        "broken_ranges": ["archive"],
        "count_broken": ["archive", "time"],
        "forgotten_from": ["archive"],
    },
    repair: {
        "is_repair": ["archive", "time", "value"],
        "repair": ["archive", "time"],
        "repair_size": ["scheme", "damaged", "time"],
        "repaired": ["archive", "numbers"],
        "next_restorable": ["archive", "time"],
    },
    gaps: {
        "newest_kept": ["archive", "time", "state"],
        "newest_restorable": ["archive", "time", "state"],
        "loss": ["archive", "time", "state"],
        "count_restorable": ["archive", "time", "low", "high"],
        "restorable_between": ["archive", "time", "low", "high"],
        "greatest_loss": ["archive", "time", "low", "high"],
        "newest_state_over": ["archive", "time", "limit"],
        "missing_that_matter": ["archive", "time"],
    },
    space: {
        "size": ["scheme", "number", "full"],
        "restore_size": ["scheme", "number", "full"],
        "space": ["scheme", "time", "full"],
        "size_of_range": ["scheme", "first", "after", "full"],
        "greatest_distance": ["scheme", "time"],
        "greatest_full": ["scheme", "time", "most"],
    },
}
VALID = {"archive": A, "scheme": S, "time": 40, "value": [], "damaged": 30, "numbers": [9], "state": 20, "low": 10,
         "high": 30, "limit": 3, "number": 12, "full": 5, "first": 3, "after": 15, "most": 90}
OF_A_STATE = (gaps.newest_kept, gaps.newest_restorable, gaps.loss)
OF_A_RANGE = (gaps.count_restorable, gaps.restorable_between, gaps.greatest_loss)


class Interface(RaisingCase):

    def test_parameters(self):
        for module, calls in PARAMETERS.items():
            for name, parameters in calls.items():
                self.assert_parameters(getattr(module, name), parameters)

    def test_arguments_by_name_and_equal_results(self):
        for module, calls in PARAMETERS.items():
            for name, parameters in calls.items():
                call = getattr(module, name)
                by_place = call(*[VALID[part] for part in parameters])
                by_name = call(**{part: VALID[part] for part in reversed(parameters)})
                self.assertEqual(by_place, by_name, name)

    def test_arguments_are_not_changed(self):
        same = Archive(Scheme(10, 2), missing=[6], full=[7], pinned=[5], damaged=[8])
        for module, calls in PARAMETERS.items():
            for name, parameters in calls.items():
                getattr(module, name)(*[VALID[part] for part in parameters])
        self.assertEqual(A, same)
        self.assertEqual((VALID["value"], VALID["numbers"]), ([], [9]))

    def test_kinds_of_values(self):
        self.assertIsInstance(damage.broken_ranges(A)[0], tuple)
        self.assertIsInstance(gaps.greatest_loss(A, 9, 0, 9), tuple)
        self.assertIsInstance(gaps.missing_that_matter(A, 7)[0], tuple)
        self.assertIsInstance(space.greatest_distance(S, 5), tuple)
        self.assertIsInstance(repair.repaired(A, []), Archive)

    def test_an_int_of_a_subclass(self):
        self.assertEqual(gaps.newest_kept(A, OwnInt(40), OwnInt(20)), 20)
        self.assertIs(repair.is_repair(A, OwnInt(8), [OwnInt(9)]), True)


class Times(RaisingCase):

    def test_the_time_comes_before_all_others(self):
        for value in no_numbers():
            with self.subTest(kind=value.__class__):
                for call in (damage.count_broken, repair.repair, repair.next_restorable, gaps.missing_that_matter):
                    self.assert_time(value, call, A, value)
                self.assert_time(value, space.greatest_distance, S, value)
                for other in (0, -1, None, [value]):
                    self.assert_time(value, repair.is_repair, A, value, other)
                    self.assert_time(value, gaps.newest_state_over, A, value, other)
                    self.assert_time(value, space.space, S, value, other)
                    self.assert_time(value, space.greatest_full, S, value, other)
                    for call in OF_A_STATE:
                        self.assert_time(value, call, A, value, other)
                    for call in OF_A_RANGE:
                        self.assert_time(value, call, A, value, other, other)

    def test_the_time_of_repair_size(self):
        for value in no_numbers():
            for damaged in (0, 5, 10 ** 29):
                self.assert_time(value, repair.repair_size, S, damaged, value)


class Numbers(RaisingCase):

    def test_states(self):
        for call in OF_A_STATE:
            for value in (*no_numbers(), 41, 10 ** 29):
                self.assert_number(value, call, A, 40, value)
            self.assertIsNotNone(call(A, 40, 40))
            self.assert_number(1, call, A, 0, 1)

    def test_the_damaged_number_comes_before_the_time(self):
        for value in no_numbers():
            for time in (0, 40, -1, None, [value]):
                self.assert_number(value, repair.repair_size, S, value, time)

    def test_numbers_of_sizes_come_before_full(self):
        for value in no_numbers():
            for full in (1, 0, None, [value]):
                self.assert_number(value, space.size, S, value, full)
                self.assert_number(value, space.restore_size, S, value, full)
                self.assert_number(value, space.size_of_range, S, value, 5, full)
                self.assert_number(value, space.size_of_range, S, value, value, full)
                self.assert_number(value, space.size_of_range, S, 5, value, full)

    def test_after_less_than_first(self):
        for first, after in ((1, 0), (12, 11), (10 ** 29, 10 ** 29 - 1)):
            for full in (1, 0, None):
                self.assert_number(after, space.size_of_range, S, first, after, full)


class Bounds(RaisingCase):

    def test_low_and_high(self):
        for call in OF_A_RANGE:
            for value in (*no_numbers(), 41, 10 ** 29):
                for high in (40, 5, -1, None, [value]):
                    self.assert_bound("low", call, A, 40, value, high)
                self.assert_bound("high", call, A, 40, 0, value)
            self.assert_bound("high", call, A, 40, 7, 6)
            self.assert_bound("high", call, A, 40, 40, 39)
            self.assert_bound("low", call, A, 0, 1, 1)
            self.assertIsNotNone(call(A, 40, 40, 40))
            self.assertIsNotNone(call(A, 0, 0, 0))

    def test_limit(self):
        for value in no_numbers():
            self.assert_bound("limit", gaps.newest_state_over, A, 40, value)
        self.assert_bound("limit", gaps.newest_state_over, Archive(Scheme(2, 5000)), 4000, -1)

    def test_full(self):
        for value in (*no_numbers(), 0):
            for number in (0, 12):
                self.assert_bound("full", space.size, S, number, value)
                self.assert_bound("full", space.restore_size, S, number, value)
                self.assert_bound("full", space.space, S, number, value)
                self.assert_bound("full", space.size_of_range, S, number, number, value)
                self.assert_bound("full", space.size_of_range, S, number, number + 5, value)

    def test_most(self):
        for value in no_numbers():
            for time in (0, 12):
                self.assert_bound("most", space.greatest_full, S, time, value)


if __name__ == "__main__":
    unittest.main()
