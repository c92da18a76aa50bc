"""The examples e01 to e12, e201 to e244 and e301 to e318 of the document."""

import unittest

from snapdigits.ages import first_time_of_loss, greatest_loss, loss, restore_point, safe_age, widest_gap
from snapdigits.archives import Archive
from snapdigits.change import Change
from snapdigits.choice import least_factor
from snapdigits.damage import broken_ranges, count_broken, forgotten_from
from snapdigits.errors import InvalidScheme
from snapdigits.gaps import (
    count_restorable, missing_that_matter, newest_kept, newest_restorable, newest_state_over, restorable_between,
)
from snapdigits.gaps import greatest_loss as greatest_loss_of_states
from snapdigits.gaps import loss as loss_of_state
from snapdigits.kept import (
    changes, count_kept, dropped, kept_between, kept_levels, kept_number, next_drop, next_kept,
    previous_kept, rank,
)
from snapdigits.repair import next_restorable, repair, repair_size
from snapdigits.schemes import Scheme
from snapdigits.search import (
    best_plan, candidate, count_candidates, judge_plan, next_test, run_search, tests_needed,
)
from snapdigits.space import greatest_distance, greatest_full, restore_size, size, size_of_range, space
from snapdigits.store import Store

from raising import RaisingCase

S = Scheme(2, 2)
T = Scheme(10, 2)


class SchemeExamples(RaisingCase):

    def test_e01(self):
        found = [T.level(4700), T.parent(4700), T.chain(4705), T.block(4700)]
        self.assertEqual(found, [2, 4000, [4705, 4700, 4000, 0], (4700, 4800)])

    def test_e02(self):
        found = [T.last_time(4700), T.is_kept(4700, 4900), T.is_kept(4700, 4901)]
        self.assertEqual(found, [4900, True, False])

    def test_e03(self):
        self.assertEqual(self.raised(InvalidScheme, Scheme, 1, 2).part, "base")

    def test_e10(self):
        self.assertEqual([least_factor(10, 1000, 99), least_factor(2, 10, 0)], [11, 10])


class ArchiveExamples(RaisingCase):

    def test_e04(self):
        a = Archive(Scheme(10, 2), missing=[4700], full=[4000])
        self.assertEqual([a.parent(4705), a.chain(4705)], [4000, [4705, 4000]])

    def test_e05(self):
        self.assertEqual(Archive(Scheme(10, 1), pinned=[4705]).pinned_members(4900), [4700, 4705])

    def test_e06(self):
        d = Archive(Scheme(10, 2), damaged=[4700], full=[4750])
        found = [broken_ranges(d), count_broken(d, 4760), forgotten_from(d)]
        self.assertEqual(found, [[(4700, 4750), (4760, 4800)], 3, 4901])

    def test_e07(self):
        self.assert_archive("damaged", 1, Archive, Scheme(10, 2), missing=[5], damaged=[4, 5])

    def test_e08_e09(self):
        e = Archive(Scheme(10, 2), damaged=[4700])
        self.assertEqual([repair(e, 4768), next_restorable(e, 4768)], [[4769, 4770, 4780, 4790], 4800])
        self.assertEqual(repair_size(Scheme(10, 2), 4700, 4768), 4)


class KeptExamples(RaisingCase):

    def test_e201_e202(self):
        self.assertEqual(count_kept(S, 10), 6)
        self.assertEqual(count_kept(Scheme(10, 1), 10 ** 20), 22)

    def test_e203_e204(self):
        self.assertEqual(kept_levels(S, 10), [(0, 9, 9, 1), (1, 6, 10, 2), (2, 4, 4, 1), (3, 8, 8, 1)])
        self.assertEqual(kept_levels(S, 0), [])

    def test_e205_to_e207(self):
        self.assertEqual(rank(S, 10, 7), 3)
        self.assertEqual(kept_number(S, 10, 3), 8)
        self.assert_bound("index", kept_number, S, 10, 6)

    def test_e208_to_e211(self):
        self.assertEqual(previous_kept(S, 10, 7), 6)
        self.assertEqual(previous_kept(S, 10, 99), 10)
        self.assertEqual(next_kept(S, 10, 1), 4)
        self.assertIsNone(next_kept(S, 10, 11))

    def test_e212_to_e214(self):
        self.assertEqual(kept_between(S, 10, 5, 9), [6, 8, 9])
        self.assert_bound("high", kept_between, S, 10, 5, 4)
        self.assert_limit(1000, kept_between, Scheme(2, 2000), 2000, 0, 1000)

    def test_e215_to_e217(self):
        self.assertEqual(dropped(S, 10, 13), [4, 6, 9])
        self.assert_time(9, dropped, S, 10, 9)
        self.assertEqual(changes(S, 10, 13), (3, 3))

    def test_e218_e219(self):
        self.assertEqual(next_drop(S, 10), (11, [6]))
        self.assertIsNone(next_drop(S, 0))


class GapExamples(RaisingCase):

    def setUp(self):
        self.archive = Archive(Scheme(2, 2), missing=[6], damaged=[8])

    def test_e220_to_e222(self):
        self.assertEqual(newest_kept(self.archive, 10, 7), 4)
        self.assert_number(11, newest_kept, self.archive, 10, 11)
        self.assertEqual(newest_restorable(self.archive, 10, 10), 4)

    def test_e223_e224(self):
        self.assertEqual(loss_of_state(self.archive, 10, 10), 6)
        self.assertIsNone(loss_of_state(Archive(Scheme(2, 2), damaged=[0]), 10, 10))

    def test_e225_e226(self):
        self.assertEqual(count_restorable(self.archive, 10, 0, 10), 2)
        self.assertEqual(restorable_between(self.archive, 10, 1, 10), [4])

    def test_e227_e228(self):
        self.assertEqual(greatest_loss_of_states(self.archive, 10, 0, 10), (6, 10))
        self.assertEqual(greatest_loss_of_states(self.archive, 10, 0, 5), (3, 3))

    def test_e229_e230(self):
        self.assertEqual(newest_state_over(self.archive, 10, 2), 10)
        self.assertIsNone(newest_state_over(self.archive, 10, 6))

    def test_e231_e232(self):
        self.assertEqual(missing_that_matter(self.archive, 10), [(6, 2)])
        self.assertEqual(missing_that_matter(self.archive, 11), [])


class AgeExamples(RaisingCase):

    def test_e301(self):
        self.assertEqual([restore_point(T, 4733, 20), loss(T, 4733, 20)], [4700, 13])

    def test_e302_e303(self):
        self.assertEqual([greatest_loss(T, age) for age in [0, 2, 3, 11, 12, 20]], [0, 0, 9, 9, 99, 99])
        self.assertEqual([greatest_loss(Scheme(3, 1), age) for age in [1, 2]], [0, None])

    def test_e304_e305(self):
        self.assertEqual([first_time_of_loss(T, 20, least) for least in [99, 10, 100]], [119, 31, None])
        self.assertEqual(first_time_of_loss(Scheme(2, 1), 2, 5), 9)

    def test_e306(self):
        self.assertEqual([safe_age(T, most) for most in [50, 9, 8]], [11, 11, 2])

    def test_e307(self):
        found = [widest_gap(T, 4733), widest_gap(Scheme(2, 1), 13), widest_gap(Scheme(2, 1), 0)]
        self.assertEqual(found, [(0, 3000), (0, 8), None])

    def test_e308(self):
        self.assert_number(6, restore_point, T, 5, 6)


class SpaceExamples(unittest.TestCase):

    def test_e309(self):
        found = [size(T, 4700, 1000), size(T, 4700, 500), size(T, 0, 500), restore_size(T, 4705, 5000),
                 restore_size(T, 4705, 100)]
        self.assertEqual(found, [700, 500, 500, 9705, 305])

    def test_e310_e311(self):
        self.assertEqual([space(T, 12, 50), space(T, 12, 1)], [63, 4])
        self.assertEqual([size_of_range(T, 9, 12, 50), size_of_range(T, 0, 3, 50)], [20, 53])

    def test_e312_e313(self):
        self.assertEqual([greatest_distance(T, 12), greatest_distance(T, 0)], [(10, 10), None])
        self.assertEqual([greatest_full(T, 12, 63), greatest_full(T, 12, 3)], [50, None])


class StoreExamples(RaisingCase):

    def test_e11(self):
        t = Store(Scheme(10, 2))
        found = [t.take(4768), t.damage(4700), t.plan(), t.take(40), t.archive().full(), t.planned()]
        members = [4769, 4770, 4780, 4790]
        self.assertEqual(found, [4768, None, members, 4808, members, []])

    def test_e12(self):
        t = Store(Scheme(10, 2))
        t.take(4)
        self.assert_number(1, t.pin, 1)


class SearchExamples(RaisingCase):

    def setUp(self):
        self.archive = Archive(Scheme(2, 2))

    def test_e233_e234(self):
        self.assertEqual(count_candidates(self.archive, 10, 0, 10), 4)
        self.assert_bound("bad", count_candidates, self.archive, 10, 10, 10)

    def test_e235_e236(self):
        self.assertEqual(candidate(self.archive, 10, 0, 10, 1), 6)
        self.assert_bound("index", candidate, self.archive, 10, 0, 10, 4)

    def test_e237_to_e239(self):
        self.assertEqual(tests_needed(self.archive, 10, 0, 10), 3)
        self.assertEqual(next_test(self.archive, 10, 0, 10), 8)
        self.assertIsNone(next_test(self.archive, 10, 4, 6))

    def test_e240_e241(self):
        self.assertEqual(run_search(self.archive, 10, 0, 10, 7), ([8, 6], 6, 8))
        self.assertEqual(run_search(self.archive, 10, 0, 10, 10), ([8, 9], 9, 10))

    def test_e242_to_e244(self):
        plan = (8, (9, None, None), (6, None, (4, None, None)))
        self.assertEqual(best_plan(self.archive, 10, 0, 10), plan)
        plan = (4, (6, (8, (9, None, None), None), None), None)
        self.assertEqual(judge_plan(self.archive, 10, 0, 10, plan), 4)
        self.assertIsNone(judge_plan(self.archive, 10, 0, 10, None))


class ChangeExamples(RaisingCase):

    def test_e314_e315(self):
        x = Change(Scheme(2, 1), Scheme(4, 3), 20)
        self.assertEqual([x.gone_count(20), x.next_gone(9, 20), x.settled_from(), x.moved_count()], [3, 12, 25, 1])
        found = [x.is_kept(16, 20), x.is_kept(12, 20), x.is_gone(12, 24), x.is_gone(12, 25)]
        self.assertEqual(found, [True, False, True, False])

    def test_e316(self):
        self.assertEqual(self.raised(InvalidScheme, Change, Scheme(2, 1), Scheme(6, 1), 3).part, "base")

    def test_e317_e318(self):
        self.assertEqual(Change(Scheme(2, 3), Scheme(2, 1), 8).dropped_count(), 2)
        x = Change(Scheme(2, 1), Scheme(4, 1), 13)
        self.assertEqual([x.is_moved(12), x.is_kept(12, 16), x.is_kept(8, 16)], [True, True, False])


if __name__ == "__main__":
    unittest.main()
