"""Points 46 to 50: the search for the first bad state."""

import unittest

from snapdigits import search
from snapdigits.archives import Archive
from snapdigits.schemes import Scheme
from snapdigits.search import (
    best_plan, candidate, count_candidates, judge_plan, next_test, run_search, tests_needed,
)

from archive_samples import crowded_archive, drawn_archives, parts_of, small_archives
from raising import RaisingCase
from samples import OwnInt, Stubborn, deep_list, no_integers, no_numbers
from walks import LONG, LONG_TIMES, schemes, soon

B = Archive(Scheme(2, 2))
EVERY = Archive(Scheme(2, 10 ** 4))
PARAMETERS = {
    "count_candidates": ["archive", "time", "good", "bad"],
    "candidate": ["archive", "time", "good", "bad", "index"],
    "tests_needed": ["archive", "time", "good", "bad"],
    "next_test": ["archive", "time", "good", "bad"],
    "run_search": ["archive", "time", "good", "bad", "first_bad"],
    "best_plan": ["archive", "time", "good", "bad"],
    "judge_plan": ["archive", "time", "good", "bad", "plan"],
}
VALID = {"archive": B, "time": 10, "good": 0, "bad": 10, "index": 1, "first_bad": 7, "plan": None}


def cases():
    """(archive, time, good, bad, candidates): small archives, with the candidates made number by number."""
    for archive in small_archives() + drawn_archives("search", 40):
        for time in (1, 2, 10, 33, 64, 100):
            restorable = [number for number in range(time + 1) if archive.is_restorable(number, time)]
            for good, bad in sorted({(0, time), (0, 1), (time // 2, time), (time // 3, 2 * time // 3), (time - 1, time)}):
                if good < bad:
                    yield archive, time, good, bad, [number for number in restorable if good < number < bad]


def depth(plan):
    return 0 if plan is None else 1 + max(depth(plan[1]), depth(plan[2]))


def in_order(plan):
    return [] if plan is None else in_order(plan[2]) + [plan[0]] + in_order(plan[1])


def upward(numbers):
    """The plan that tests the numbers from the least one on."""
    plan = None
    for number in reversed(numbers):
        plan = (number, plan, None)
    return plan


def downward(numbers):
    """The plan that tests the numbers from the greatest one on."""
    plan = None
    for number in numbers:
        plan = (number, None, plan)
    return plan


class Candidates(RaisingCase):

    def test_examples(self):
        self.assertEqual(count_candidates(B, 10, 0, 10), 4)
        self.assertEqual(candidate(B, 10, 0, 10, 1), 6)
        self.assert_bound("bad", count_candidates, B, 10, 10, 10)
        self.assert_bound("index", candidate, B, 10, 0, 10, 4)

    def test_one_by_one(self):
        for archive, time, good, bad, expected in cases():
            told = (parts_of(archive), time, good, bad)
            self.assertEqual(count_candidates(archive, time, good, bad), len(expected), told)
            found = [candidate(archive, time, good, bad, index) for index in range(len(expected))]
            self.assertEqual(found, expected, told)
            self.assert_bound("index", candidate, archive, time, good, bad, len(expected))

    def test_strictly_between(self):
        self.assertEqual([candidate(EVERY, 20, 3, 6, index) for index in (0, 1)], [4, 5])
        self.assertEqual(count_candidates(EVERY, 20, 3, 6), 2)
        self.assertEqual(count_candidates(EVERY, 20, 3, 4), 0)

    def test_far(self):
        with soon():
            for scheme in schemes(LONG):
                archive = Archive(scheme)
                for time in LONG_TIMES[::4]:
                    count = count_candidates(archive, time, 0, time)
                    for index in (0, 1, count // 2, count - 1):
                        number = candidate(archive, time, 0, time, index)
                        self.assertTrue(archive.is_restorable(number, time))
                        self.assertEqual(count_candidates(archive, time, 0, number), index)
                    self.assert_bound("index", candidate, archive, time, 0, time, count)


class Tests(RaisingCase):

    def test_examples(self):
        self.assertEqual(tests_needed(B, 10, 0, 10), 3)
        self.assertEqual(next_test(B, 10, 0, 10), 8)
        self.assertIsNone(next_test(B, 10, 4, 6))
        self.assertEqual(run_search(B, 10, 0, 10, 7), ([8, 6], 6, 8))
        self.assertEqual(run_search(B, 10, 0, 10, 10), ([8, 9], 9, 10))

    def test_tests_needed(self):
        for count, needed in ((0, 0), (1, 1), (2, 2), (3, 2), (4, 3), (7, 3), (8, 4), (15, 4), (16, 5), (1000, 10),
                              (1023, 10), (1024, 11), (5000, 13)):
            self.assertEqual(count_candidates(EVERY, 6000, 5, count + 6), count)
            self.assertEqual(tests_needed(EVERY, 6000, 5, count + 6), needed)

    def test_the_next_test_is_in_the_middle(self):
        for archive, time, good, bad, numbers in cases():
            expected = numbers[len(numbers) // 2] if numbers else None
            self.assertEqual(next_test(archive, time, good, bad), expected)
            needed = tests_needed(archive, time, good, bad)
            self.assertGreater(2 ** needed, len(numbers))
            self.assertTrue(needed == 0 or 2 ** (needed - 1) <= len(numbers))

    def test_searches_for_every_first_bad_state(self):
        for archive, time, good, bad, numbers in cases():
            needed = tests_needed(archive, time, good, bad)
            most = 0
            for first_bad in range(good + 1, bad + 1):
                told = (parts_of(archive), time, good, bad, first_bad)
                tests, last_good, last_bad = run_search(archive, time, good, bad, first_bad)
                neighbours = [good] + numbers + [bad]
                self.assertEqual(last_good, max(n for n in neighbours if n < first_bad), told)
                self.assertEqual(last_bad, min(n for n in neighbours if n >= first_bad), told)
                self.assertLessEqual(len(tests), needed, told)
                most = max(most, len(tests))
            self.assertEqual(most, needed)

    def test_each_test_is_the_next_one(self):
        for archive, time, good, bad, numbers in cases():
            for first_bad in sorted({good + 1, (good + bad + 1) // 2, bad}):
                low, high = good, bad
                expected = []
                while next_test(archive, time, low, high) is not None:
                    tested = next_test(archive, time, low, high)
                    expected.append(tested)
                    if tested < first_bad:
                        low = tested
                    else:
                        high = tested
                self.assertEqual(run_search(archive, time, good, bad, first_bad), (expected, low, high))

    def test_far(self):
        with soon():
            time = 10 ** 29 + 7
            archive = Archive(Scheme(2, 10 ** 6), damaged=[time - 100], missing=[time - 50])
            for first_bad in (1, 10 ** 28, time - 100, time - 50, time):
                tests, good, bad = run_search(archive, time, 0, time, first_bad)
                self.assertLessEqual(len(tests), tests_needed(archive, time, 0, time))
                self.assertTrue(good < first_bad <= bad)
                self.assertEqual(count_candidates(archive, time, good, bad), 0)

    def test_full_lists(self):
        with soon():
            archive = crowded_archive(Scheme(2, 1), 2 ** 98 + 1, 2 ** 88 - 1)
            time = archive.pinned()[-1] + 5
            tests, good, bad = run_search(archive, time, 0, time, 2 ** 98 + 2 ** 97)
            self.assertEqual(count_candidates(archive, time, good, bad), 0)
            self.assertTrue(good < 2 ** 98 + 2 ** 97 <= bad)

    def test_the_list_belongs_to_the_caller(self):
        run_search(B, 10, 0, 10, 7)[0].clear()
        self.assertEqual(run_search(B, 10, 0, 10, 7), ([8, 6], 6, 8))


class BestPlans(RaisingCase):

    def test_example(self):
        self.assertEqual(best_plan(B, 10, 0, 10), (8, (9, None, None), (6, None, (4, None, None))))

    def test_each_step_is_the_next_test(self):
        for archive, time, good, bad, numbers in cases():
            waiting = [(best_plan(archive, time, good, bad), good, bad)]
            while waiting:
                plan, low, high = waiting.pop()
                tested = next_test(archive, time, low, high)
                if tested is None:
                    self.assertIsNone(plan)
                else:
                    self.assertIsInstance(plan, tuple)
                    number, if_good, if_bad = plan
                    self.assertEqual(number, tested)
                    waiting += [(if_good, number, high), (if_bad, low, number)]

    def test_judged(self):
        for archive, time, good, bad, numbers in cases():
            plan = best_plan(archive, time, good, bad)
            self.assertEqual(in_order(plan), numbers)
            self.assertEqual(judge_plan(archive, time, good, bad, plan), tests_needed(archive, time, good, bad))
            self.assertEqual(depth(plan), tests_needed(archive, time, good, bad))

    def test_no_candidate(self):
        self.assertIsNone(best_plan(B, 10, 4, 6))
        self.assertEqual(judge_plan(B, 10, 4, 6, None), 0)

    def test_1000_candidates_and_1001(self):
        plan = best_plan(EVERY, 2000, 0, 1001)
        self.assertEqual(in_order(plan), list(range(1, 1001)))
        self.assertEqual(judge_plan(EVERY, 2000, 0, 1001, plan), 10)
        self.assert_limit(1000, best_plan, EVERY, 2000, 0, 1002)
        for value in (None, plan, 5, Stubborn()):
            self.assert_limit(1000, judge_plan, EVERY, 2000, 0, 1002, value)


class JudgedPlans(RaisingCase):

    def test_examples(self):
        plan = (4, (6, (8, (9, None, None), None), None), None)
        self.assertEqual(judge_plan(B, 10, 0, 10, plan), 4)
        self.assertIsNone(judge_plan(B, 10, 0, 10, None))

    def test_plans_of_every_form(self):
        def plans(numbers):
            if not numbers:
                return [None]
            return [(number, above, below) for at, number in enumerate(numbers)
                    for above in plans(numbers[at + 1:]) for below in plans(numbers[:at])]

        numbers = [4, 6, 8, 9]
        every = plans(numbers)
        self.assertEqual(len(every), 14)
        for plan in every:
            self.assertEqual(judge_plan(B, 10, 0, 10, plan), depth(plan))
        self.assertEqual(min(depth(plan) for plan in every), tests_needed(B, 10, 0, 10))

    def test_no_plans(self):
        for plan in (
                (7, (8, (9, None, None), None), (6, None, (4, None, None))),       # 7 is no candidate
                (8, (10, None, None), (6, None, (4, None, None))),                 # 10 is the bad state
                (8, (9, None, None), (6, None, (0, None, None))),                  # 0 is the good state
                (8, (9, None, None), (6, None, None)),                             # 4 is left
                (8, None, (6, None, (4, None, None))),                             # 9 is left
                (8, (9, None, None), (6, None, (4, None, (4, None, None)))),       # 4 twice
                (8, (9, None, None), (6, None, (4, None, None)), None),            # another length
                (8, (9, None, None)),
                (8, (9, None), (6, None, (4, None, None))),
                (),
                [8, (9, None, None), (6, None, (4, None, None))],                  # a list
                (8, [9, None, None], (6, None, (4, None, None))),
                (8, (6, None, (4, None, None)), (9, None, None)),                  # wrong sides
                (8, (9, None, None), (4, None, (6, None, None))),
                (8, (9, False, None), (6, None, (4, None, None))),                 # not None at the end
                (8, (9, None, ()), (6, None, (4, None, None))),
                (8, (9, None, 0), (6, None, (4, None, None))),
                ("8", (9, None, None), (6, None, (4, None, None))),
                ([8], (9, None, None), (6, None, (4, None, None))),
                8, True, "8", {8: None}):
            self.assertIsNone(judge_plan(B, 10, 0, 10, plan), plan)

    def test_true_in_place_of_1(self):
        self.assertEqual(judge_plan(EVERY, 20, 0, 2, (1, None, None)), 1)
        self.assertEqual(judge_plan(EVERY, 20, 0, 2, (OwnInt(1), None, None)), 1)
        self.assertIsNone(judge_plan(EVERY, 20, 0, 2, (True, None, None)))

    def test_values_of_every_kind(self):
        for value in no_numbers():
            if value is not None:
                self.assertIsNone(judge_plan(B, 10, 4, 6, value))
                self.assertIsNone(judge_plan(B, 10, 4, 7, (6, value, None)))
                self.assertIsNone(judge_plan(B, 10, 4, 7, (6, None, value)))
            self.assertIsNone(judge_plan(B, 10, 4, 7, value))
            self.assertIsNone(judge_plan(B, 10, 4, 7, (value, None, None)))

    def test_plans_a_thousand_tests_deep(self):
        numbers = list(range(1, 1001))
        for build in (upward, downward):
            self.assertEqual(judge_plan(EVERY, 2000, 0, 1001, build(numbers)), 1000)
            self.assertIsNone(judge_plan(EVERY, 2000, 0, 1001, build(numbers[:-1])))
            self.assertIsNone(judge_plan(EVERY, 2000, 0, 1001, build(numbers[1:])))
            self.assertIsNone(judge_plan(EVERY, 2000, 0, 1001, build(numbers + [1001])))
            self.assertIsNone(judge_plan(EVERY, 2000, 0, 1001, build(numbers + list(range(1, 2000)))))
            self.assertIsNone(judge_plan(EVERY, 2000, 0, 999, build(numbers)))
        zigzag = None
        low, high = 500, 501
        for step in range(500):
            zigzag = (high, None, zigzag)
            zigzag = (low, zigzag, None)
            low, high = low - 1, high + 1
        self.assertEqual(judge_plan(EVERY, 2000, 0, 1001, zigzag), 1000)
        self.assertIsNone(judge_plan(EVERY, 2000, 0, 1001, deep_list(3000)))

    def test_a_plan_that_contains_itself_in_a_list(self):
        knot = [5]
        knot.append(knot)
        self.assertIsNone(judge_plan(EVERY, 2000, 0, 10, (5, knot, knot)))


class Wrong(RaisingCase):

    def calls(self):
        for name, parameters in PARAMETERS.items():
            rest = [VALID[part] for part in parameters[4:]]
            yield getattr(search, name), rest

    def test_parameters(self):
        for name, parameters in PARAMETERS.items():
            self.assert_parameters(getattr(search, name), parameters)

    def test_arguments_by_name_and_equal_results(self):
        for name, parameters in PARAMETERS.items():
            call = getattr(search, name)
            by_name = call(**{part: VALID[part] for part in reversed(parameters)})
            self.assertEqual(call(*[VALID[part] for part in parameters]), by_name, name)

    def test_times_come_first(self):
        for call, rest in self.calls():
            for value in no_numbers():
                for others in ((0, 10), (-1, 5), (None, None), ([value], "x")):
                    self.assert_time(value, call, B, value, *others, *rest)

    def test_good(self):
        for call, rest in self.calls():
            for value in (*no_numbers(), 11, 10 ** 29):
                for bad in (10, 0, -1, None, [value]):
                    self.assert_bound("good", call, B, 10, value, bad, *rest)

    def test_bad(self):
        for call, rest in self.calls():
            for value in (*no_numbers(), 0, 4, 5, 11, 10 ** 29):
                self.assert_bound("bad", call, B, 10, 5, value, *rest)
            self.assert_bound("bad", call, B, 0, 0, 0, *rest)
            self.assert_bound("bad", call, B, 10, 10, 10, *rest)
            self.assert_bound("bad", call, B, 10, 10, 11, *rest)

    def test_bad_comes_before_the_last_argument(self):
        for value in (-1, None, [5], Stubborn()):
            self.assert_bound("bad", candidate, B, 10, 5, 5, value)
            self.assert_bound("bad", run_search, B, 10, 5, 5, value)

    def test_index(self):
        for value in (*no_numbers(), 4, 5, 10 ** 29):
            self.assert_bound("index", candidate, B, 10, 0, 10, value)
        self.assert_bound("index", candidate, B, 10, 4, 6, 0)

    def test_first_bad(self):
        for value in (*no_integers(), -1, 0, 2, 9, 10):
            self.assert_bound("first_bad", run_search, B, 10, 2, 8, value)
        self.assertEqual(run_search(B, 10, 2, 8, 3), ([6, 4], 2, 4))
        self.assertEqual(run_search(B, 10, 2, 8, 8), ([6], 6, 8))


if __name__ == "__main__":
    unittest.main()
