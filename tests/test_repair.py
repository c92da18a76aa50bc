"""Points 27 to 31: repairs after damage."""

import unittest
from itertools import combinations

from snapdigits.archives import Archive
from snapdigits.damage import broken_ranges
from snapdigits.repair import is_repair, next_restorable, repair, repair_size, repaired
from snapdigits.schemes import Scheme

from archive_samples import drawn_archives, parts_of, small_archives
from raising import RaisingCase
from samples import no_integers
from walks import LONG_TIMES, named, schemes, soon

E = Archive(Scheme(10, 2), damaged=[4700])


def first_time(archive):
    """The least time at which the archive can be repaired."""
    return max([0, *archive.damaged()])


def horizon(archive, time):
    """A number from which on nothing is broken, if the numbers end to be broken."""
    return max([time + 1, *[after for _, after in broken_ranges(archive) if after is not None]])


def broken_after(archive, time):
    """The taken broken numbers above a time, number by number."""
    missing = archive.missing()
    return [n for n in range(time + 1, horizon(archive, time)) if n not in missing and archive.is_broken(n)]


def is_enough(archive, time, numbers):
    return broken_after(repaired(archive, list(numbers)), time) == []


def repairable():
    """Pairs of an archive, in which 0 is not damaged, and a time."""
    for archive in small_archives() + drawn_archives("repair", 80):
        if 0 not in archive.damaged():
            first = first_time(archive)
            for time in (first, first + 1, first + 2, first + 7):
                yield archive, time


class Smallest(RaisingCase):

    def test_example(self):
        self.assertEqual(repair(E, 4768), [4769, 4770, 4780, 4790])

    def test_the_way_of_the_document(self):
        for archive, time in repairable():
            expected = []
            behind = time + 1
            for number in broken_after(archive, time):
                if number >= behind:
                    expected.append(number)
                    behind = archive.scheme().block(number)[1]
            self.assertEqual(repair(archive, time), expected, (parts_of(archive), time))

    def test_it_leaves_no_later_number_broken(self):
        found = 0
        for archive, time in repairable():
            members = repair(archive, time)
            self.assertEqual(broken_after(repaired(archive, members), time), [])
            self.assertIs(is_repair(archive, time, members), True)
            found += len(members) > 1
        self.assertGreater(found, 20)

    def test_by_trying(self):
        tried = 0
        for archive, time in repairable():
            harmed = broken_after(archive, time)
            if len(harmed) > 8:
                continue
            later = harmed + [n for n in range(time + 1, time + 4) if n not in archive.missing() + harmed]
            repairs = [list(chosen) for size in range(len(later) + 1) for chosen in combinations(sorted(later), size)
                       if is_enough(archive, time, chosen)]
            smallest = repair(archive, time)
            self.assertEqual(repairs[0], smallest)
            self.assertTrue(all(len(one) > len(smallest) for one in repairs[1:]))
            self.assertTrue(all(set(smallest) <= set(one) for one in repairs))
            self.assertTrue(all(is_repair(archive, time, one) for one in repairs[:50]))
            tried += len(smallest) > 0
        self.assertGreater(tried, 10)

    def test_each_member_is_needed(self):
        for archive, time in repairable():
            members = repair(archive, time)
            for at in range(len(members)):
                self.assertIs(is_repair(archive, time, members[:at] + members[at + 1:]), False)

    def test_missing_numbers_right_behind_the_time_and_behind_blocks(self):
        e = Archive(Scheme(10, 2), damaged=[4700], missing=[4769, 4770, 4790])
        self.assertEqual(repair(e, 4768), [*range(4771, 4780), 4780, *range(4791, 4800)])
        e = Archive(Scheme(10, 2), damaged=[4700], missing=list(range(4769, 4800)))
        self.assertEqual(repair(e, 4768), [])
        e = Archive(Scheme(2, 2), damaged=[16], missing=[24, 28, 30, 31])
        self.assertEqual(repair(e, 20), [21, 22, 25, 26, 29])

    def test_full_numbers(self):
        e = Archive(Scheme(10, 2), damaged=[4700], full=[4769, 4780, 4795])
        self.assertEqual(repair(e, 4768), [4770, 4790])
        e = Archive(Scheme(10, 2), damaged=[4700], full=[4775])
        self.assertEqual(repair(e, 4772), [4773, 4774, 4776, 4777, 4778, 4779, 4780, 4790])

    def test_several_damages(self):
        e = Archive(Scheme(10, 2), damaged=[4000, 4700, 4768])
        self.assertEqual(repair(e, 4997), [4998, 4999])
        self.assertEqual(repair(e, 4768), [4769, 4770, 4780, 4790, 4800, 4900])
        e = Archive(Scheme(10, 2), full=[4700], damaged=[4700, 4768])
        self.assertEqual(repair(e, 4790), list(range(4791, 4800)))

    def test_nothing_to_repair(self):
        self.assertEqual(repair(Archive(Scheme(10, 2)), 0), [])
        self.assertEqual(repair(E, 4799), [])
        self.assertEqual(repair(E, 10 ** 29), [])

    def test_none_if_0_is_damaged(self):
        with soon():
            self.assertIsNone(repair(Archive(Scheme(10, 2), damaged=[0]), 5))
            self.assertIsNone(repair(Archive(Scheme(10, 2), damaged=[0, 4000], full=[5000]), 4000))
            # Before the numbers that never end to be broken there are too many members.
            self.assertIsNone(repair(Archive(Scheme(1000, 2), damaged=[0], full=[10 ** 6]), 0))

    def test_200_members_and_201(self):
        self.assertEqual(repair(Archive(Scheme(1000, 1), damaged=[1000]), 1799), list(range(1800, 2000)))
        self.assert_limit(200, repair, Archive(Scheme(1000, 1), damaged=[1000]), 1798)
        one_less = Archive(Scheme(1000, 1), damaged=[1000], missing=[1900])
        self.assertEqual(len(repair(one_less, 1798)), 200)
        self.assert_limit(200, repair, one_less, 1797)
        with soon():
            self.assert_limit(200, repair, Archive(Scheme(1000, 1), damaged=[10 ** 27]), 10 ** 27)

    def test_thirty_digits(self):
        with soon():
            top = 7 * 10 ** 29
            e = Archive(Scheme(10, 2), damaged=[top], full=[top + 10 ** 10])
            members = repair(e, top + 10 ** 29 - 32)
            self.assertEqual(members, [top + 10 ** 29 - k for k in (31, 30, 20, 10)])
            self.assert_limit(200, repair, e, top + 5 * 10 ** 28)

    def test_members_of_a_long_repair(self):
        e = Archive(Scheme(2, 1), damaged=[2 ** 98])
        self.assertEqual(repair(e, 2 ** 98), [2 ** 98 + 2 ** k for k in range(98)])
        self.assertEqual(repair(e, 2 ** 99 - 2), [2 ** 99 - 1])

    def test_the_list_belongs_to_the_caller(self):
        repair(E, 4768).clear()
        self.assertEqual(len(repair(E, 4768)), 4)

    def test_a_later_damage_of_a_member_breaks_only_its_own_block(self):
        for archive, time in repairable():
            members = repair(archive, time)
            for member in members[:5]:
                mended = repaired(archive, members)
                again = Archive(mended.scheme(), missing=mended.missing(), full=mended.full(),
                                pinned=mended.pinned(), damaged=sorted(set(mended.damaged() + [member])))
                first, after = archive.scheme().block(member)
                self.assertTrue(all(first <= n < after for n in broken_after(again, time)))


class Judged(RaisingCase):

    def test_values_of_every_kind(self):
        for value in no_integers():
            self.assertIs(is_repair(E, 4768, value), False)
        for value in ((4769, 4770, 4780, 4790), {4769: 1}, 4769, "4769", [[4769, 4770, 4780, 4790]]):
            self.assertIs(is_repair(E, 4768, value), False)
        self.assertIs(is_repair(E, 4768, []), False)
        self.assertIs(is_repair(E, 4799, []), True)
        self.assertIs(is_repair(E, 4799, None), False)
        self.assertIs(is_repair(E, 4799, ()), False)

    def test_items_of_every_kind(self):
        for item in no_integers():
            self.assertIs(is_repair(E, 4799, [item]), False)
            self.assertIs(is_repair(E, 4768, [4769, 4770, 4780, 4790, item]), False)

    def test_true_is_no_number(self):
        e = Archive(Scheme(2, 2))
        self.assertIs(is_repair(e, 0, [1]), True)
        self.assertIs(is_repair(e, 0, [True]), False)

    def test_more_than_is_needed(self):
        self.assertIs(is_repair(E, 4768, [4769, 4770, 4775, 4780, 4790, 4795, 10 ** 29]), True)
        self.assertIs(is_repair(E, 4799, [4800, 9000]), True)

    def test_numbers_that_do_not_count(self):
        for value in (
                [4768, 4769, 4770, 4780, 4790],   # at the time
                [-1, 4769, 4770, 4780, 4790],
                [4769, 4770, 4790, 4780],         # not ascending
                [4769, 4770, 4780, 4780, 4790],   # twice
                [4769, 4770, 4780]):              # not enough
            self.assertIs(is_repair(E, 4768, value), False)
        e = Archive(Scheme(10, 2), damaged=[4700], missing=[4900])
        self.assertIs(is_repair(e, 4768, [4769, 4770, 4780, 4790, 4901]), True)
        self.assertIs(is_repair(e, 4768, [4769, 4770, 4780, 4790, 4900]), False)

    def test_200_numbers_and_201(self):
        e = Archive(Scheme(1000, 1), damaged=[1000])
        self.assertIs(is_repair(e, 1799, list(range(1800, 2000))), True)
        self.assertIs(is_repair(e, 1799, list(range(1800, 2001))), False)
        self.assertIs(is_repair(Archive(Scheme(2, 1)), 0, list(range(1, 201))), True)
        self.assertIs(is_repair(Archive(Scheme(2, 1)), 0, list(range(1, 202))), False)

    def test_full_numbers_of_the_archive_do_not_count_towards_200(self):
        e = Archive(Scheme(1000, 1), damaged=[1000], full=list(range(2001, 2201)))
        self.assertIs(is_repair(e, 1799, list(range(1800, 2000))), True)
        e = Archive(Scheme(10, 2), damaged=[4700], full=[4769, 4770])
        self.assertIs(is_repair(e, 4768, [4769, 4780, 4790]), True)
        self.assertIs(is_repair(e, 4768, [4780, 4790]), True)

    def test_missing_numbers_are_not_broken(self):
        e = Archive(Scheme(10, 2), damaged=[4700], missing=list(range(4790, 4800)))
        self.assertIs(is_repair(e, 4768, [4769, 4770, 4780]), True)
        self.assertIs(is_repair(e, 4789, []), True)
        self.assertIs(is_repair(e, 4788, []), False)

    def test_none_if_0_is_damaged(self):
        e = Archive(Scheme(10, 2), damaged=[0])
        self.assertIs(is_repair(e, 5, []), False)
        self.assertIs(is_repair(e, 5, [6, 7, 8, 9, 10, 10 ** 29]), False)

    def test_the_value_is_not_changed(self):
        value = [4769, 4770, 4780, 4790]
        is_repair(E, 4768, value)
        self.assertEqual(value, [4769, 4770, 4780, 4790])

    def test_thirty_digits(self):
        with soon():
            e = Archive(Scheme(2, 1), damaged=[2 ** 98])
            members = [2 ** 98 + 2 ** k for k in range(98)]
            self.assertIs(is_repair(e, 2 ** 98, members), True)
            self.assertIs(is_repair(e, 2 ** 98, members[:-1]), False)
            self.assertIs(is_repair(e, 2 ** 98, members[1:]), False)


class Sizes(RaisingCase):

    def test_example(self):
        self.assertEqual(repair_size(Scheme(10, 2), 4700, 4768), 4)

    def test_the_length_of_the_repair(self):
        for scheme in schemes(((2, 1), (3, 2), (4, 1), (10, 2))):
            for damaged in (1, 2, 4, 9, 16, 27, 30, 64, 100):
                for time in range(damaged, damaged + 130):
                    members = repair(Archive(scheme, damaged=[damaged]), time)
                    self.assertEqual(repair_size(scheme, damaged, time), len(members), (named(scheme), damaged, time))

    def test_more_than_200(self):
        self.assertEqual(repair_size(Scheme(1000, 1), 1000, 1000), 999)
        self.assertEqual(repair_size(Scheme(1000, 1), 10 ** 27, 10 ** 27), 9 * 999)
        self.assertEqual(repair_size(Scheme(10, 1), 10 ** 29, 10 ** 29), 29 * 9)

    def test_none_for_0(self):
        for time in (0, 1, 10 ** 29):
            self.assertIsNone(repair_size(Scheme(10, 2), 0, time))

    def test_no_later_number_in_the_block(self):
        for time in (4799, 4800, 10 ** 29):
            self.assertEqual(repair_size(Scheme(10, 2), 4700, time), 0)

    def test_thirty_digits(self):
        for time in LONG_TIMES:
            for base in (2, 10):
                scheme = Scheme(base, 2)
                damaged = scheme.chain(time)[-2]
                if repair_size(scheme, damaged, time) <= 200:
                    members = repair(Archive(scheme, damaged=[damaged]), time)
                    self.assertEqual(repair_size(scheme, damaged, time), len(members))


class Repaired(RaisingCase):

    def test_numbers_are_stored_in_full_too(self):
        a = Archive(Scheme(10, 2), missing=[5], full=[10, 30], pinned=[7], damaged=[8])
        expected = Archive(Scheme(10, 2), missing=[5], full=[4, 10, 20, 30, 31], pinned=[7], damaged=[8])
        self.assertEqual(repaired(a, [4, 10, 20, 31]), expected)
        self.assertEqual(repaired(a, []), a)
        self.assertEqual(repaired(a, [0, 7, 8]).full(), [0, 7, 8, 10, 30])
        self.assertEqual(a.full(), [10, 30])

    def test_it_is_a_new_archive(self):
        a = Archive(Scheme(10, 2), full=[10])
        numbers = [11]
        mended = repaired(a, numbers)
        numbers.append(12)
        self.assertEqual(mended.full(), [10, 11])
        self.assertIsNot(repaired(a, []), a)

    def test_invalid_items(self):
        a = Archive(Scheme(10, 2), missing=[5])
        for numbers, at in (([5], 0), ([1, 5], 1), ([1, 1], 1), ([3, 2], 1), ([-1], 0), ([1, 2, "3"], 2)):
            self.assert_archive("numbers", at, repaired, a, numbers)
        for item in no_integers():
            self.assert_archive("numbers", 1, repaired, a, [1, item, 0])

    def test_no_list(self):
        for value in (None, (), (1, 2), 1, "12", {1: 2}, {1}, True):
            self.assert_archive("numbers", -1, repaired, E, value)

    def test_200_numbers_and_201(self):
        self.assertEqual(len(repaired(E, list(range(200))).full()), 200)
        self.assert_archive("numbers", -1, repaired, E, list(range(201)))
        # The length comes before the items.
        self.assert_archive("numbers", -1, repaired, E, [-1] * 201)

    def test_201_full_numbers_in_the_end(self):
        a = Archive(Scheme(10, 2), full=list(range(100)))
        self.assertEqual(len(repaired(a, list(range(50, 200))).full()), 200)
        self.assert_archive("full", -1, repaired, a, list(range(50, 201)) + [900])
        self.assert_archive("full", -1, repaired, a, list(range(100, 201)))
        self.assert_archive("numbers", 101, repaired, a, list(range(100, 201)) + ["x"])


class NextRestorable(RaisingCase):

    def test_example(self):
        self.assertEqual(next_restorable(E, 4768), 4800)

    def test_number_by_number(self):
        for archive in small_archives() + drawn_archives("next", 80):
            for time in range(first_time(archive), first_time(archive) + 20):
                expected = None
                for number in range(time + 1, 400):
                    if number not in archive.missing() and not archive.is_broken(number):
                        expected = number
                        break
                self.assertEqual(next_restorable(archive, time), expected, (parts_of(archive), time))

    def test_full_numbers(self):
        e = Archive(Scheme(10, 2), damaged=[4700], full=[4768, 4773, 4790])
        self.assertEqual([next_restorable(e, time) for time in (4767, 4768, 4773, 4790)], [4768, 4773, 4790, 4791])

    def test_missing_numbers_behind_a_damaged_block(self):
        e = Archive(Scheme(10, 2), damaged=[4700], missing=[4800, 4801, 4802])
        self.assertEqual(next_restorable(e, 4768), 4803)
        e = Archive(Scheme(10, 2), damaged=[4700, 4810], missing=list(range(4800, 4810)))
        self.assertEqual(next_restorable(e, 4811), 4820)
        e = Archive(Scheme(10, 2), damaged=[10, 30], missing=list(range(20, 30)))
        self.assertEqual(next_restorable(e, 30), 40)

    def test_none_if_0_is_damaged(self):
        e = Archive(Scheme(10, 2), damaged=[0], full=[4000], missing=[4001])
        self.assertEqual([next_restorable(e, time) for time in (0, 3999, 4000, 4998)], [4000, 4000, 4002, 4999])
        self.assertEqual([next_restorable(e, time) for time in (4999, 10 ** 29)], [None, None])

    def test_kept_or_not_later(self):
        self.assertEqual(next_restorable(Archive(Scheme(10, 1)), 10 ** 29), 10 ** 29 + 1)

    def test_thirty_digits(self):
        self.assertEqual(next_restorable(Archive(Scheme(2, 1), damaged=[2 ** 98]), 2 ** 98), 2 ** 99)


class Times(RaisingCase):

    def test_a_damaged_number_above_the_time(self):
        e = Archive(Scheme(10, 2), damaged=[5, 4700])
        for time in (0, 5, 4699):
            self.assert_time(time, is_repair, e, time, [])
            self.assert_time(time, is_repair, e, time, None)
            self.assert_time(time, repair, e, time)
            self.assert_time(time, next_restorable, e, time)
        self.assertEqual(next_restorable(e, 4700), 4800)

    def test_a_damaged_number_above_the_time_of_repair_size(self):
        self.assert_number(4700, repair_size, Scheme(10, 2), 4700, 4699)
        self.assert_number(1, repair_size, Scheme(10, 2), 1, 0)
        self.assertEqual(repair_size(Scheme(10, 2), 4700, 4700), 9 + 9)


if __name__ == "__main__":
    unittest.main()
