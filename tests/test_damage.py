"""Points 25 and 26: what is broken, how much of it is kept, and until when."""

import unittest

from snapdigits.archives import Archive
from snapdigits.damage import broken_ranges, count_broken, forgotten_from
from snapdigits.schemes import Scheme

from archive_samples import crowded_archive, drawn_archives, parts_of, small_archives
from walks import named, schemes, soon, walked_archive_chain, walked_archive_kept

SPAN = 140
D = Archive(Scheme(10, 2), damaged=[4700], full=[4750])


def archives():
    return small_archives() + drawn_archives("damage", 60)


def is_in(ranges, number):
    return any(first <= number and (after is None or number < after) for first, after in ranges)


def broken_numbers(archive, most):
    return [n for n in range(most) if n not in archive.missing() and archive.is_broken(n)]


class Ranges(unittest.TestCase):

    def test_example(self):
        self.assertEqual(broken_ranges(D), [(4700, 4750), (4760, 4800)])

    def test_number_by_number(self):
        for archive in archives():
            ranges = broken_ranges(archive)
            for number in range(SPAN):
                if number not in archive.missing():
                    harmed = any(member in archive.damaged() for member in walked_archive_chain(archive, number))
                    self.assertIs(is_in(ranges, number), harmed, (parts_of(archive), number))
                    self.assertIs(archive.is_broken(number), harmed)

    def test_ranges_ascend_and_do_not_touch(self):
        for archive in archives():
            edges = [edge for pair in broken_ranges(archive) for edge in pair]
            if edges and edges[-1] is None:
                edges.pop()
                self.assertEqual(archive.damaged()[0], 0)
            self.assertEqual(edges, sorted(set(edges)), parts_of(archive))

    def test_a_damaged_0(self):
        self.assertEqual(broken_ranges(Archive(Scheme(10, 2), damaged=[0])), [(0, None)])
        self.assertEqual(broken_ranges(Archive(Scheme(10, 2), damaged=[0], full=[0])), [(0, None)])
        d = Archive(Scheme(10, 2), damaged=[0, 4010, 6000], full=[1, 4000, 5000])
        self.assertEqual(broken_ranges(d), [(0, 1), (2, 4000), (4010, 4020), (6000, None)])

    def test_a_full_number_that_is_damaged(self):
        d = Archive(Scheme(10, 2), damaged=[4700, 4750], full=[4750])
        self.assertEqual(broken_ranges(d), [(4700, 4800)])
        d = Archive(Scheme(10, 2), damaged=[4750], full=[4700, 4750, 4753])
        self.assertEqual(broken_ranges(d), [(4750, 4753), (4754, 4760)])

    def test_damage_in_a_full_block_in_a_damaged_block(self):
        d = Archive(Scheme(10, 2), damaged=[4000, 4710], full=[4700, 4715])
        self.assertEqual(broken_ranges(d), [(4000, 4700), (4710, 4715), (4716, 4720), (4800, 5000)])

    def test_nested_and_neighbouring_blocks_are_one_range(self):
        d = Archive(Scheme(10, 2), damaged=[4700, 4710, 4711, 4800, 4900])
        self.assertEqual(broken_ranges(d), [(4700, 5000)])
        d = Archive(Scheme(10, 2), damaged=[9, 10, 30])
        self.assertEqual(broken_ranges(d), [(9, 20), (30, 40)])

    def test_a_block_that_is_full_again(self):
        d = Archive(Scheme(2, 2), damaged=[8], full=[9, 10, 12])
        self.assertEqual(broken_ranges(d), [(8, 9)])
        d = Archive(Scheme(10, 2), damaged=[4700], full=[4701])
        self.assertEqual(broken_ranges(d), [(4700, 4701), (4702, 4800)])

    def test_missing_numbers_do_not_divide_a_range(self):
        d = Archive(Scheme(10, 2), damaged=[4705, 4710], missing=[4700, 4715, 4719])
        self.assertEqual(broken_ranges(d), [(4705, 4706), (4710, 4720)])
        d = Archive(Scheme(10, 2), damaged=[4000], missing=list(range(4700, 4800)), full=[4800])
        self.assertEqual(broken_ranges(d), [(4000, 4800), (4900, 5000)])

    def test_nothing_is_broken(self):
        self.assertEqual(broken_ranges(Archive(Scheme(10, 2))), [])
        self.assertEqual(broken_ranges(Archive(Scheme(10, 2), missing=[4], full=[0, 5], pinned=[6])), [])

    def test_thirty_digits(self):
        top = 7 * 10 ** 29
        d = Archive(Scheme(10, 2), damaged=[top + 10 ** 20], full=[top + 10 ** 20 + 10 ** 10])
        self.assertEqual(broken_ranges(d), [
            (top + 10 ** 20, top + 10 ** 20 + 10 ** 10), (top + 10 ** 20 + 2 * 10 ** 10, top + 2 * 10 ** 20)])
        d = Archive(Scheme(2, 1), damaged=[2 ** 98], full=[2 ** 98 + 2 ** 97, 2 ** 99 - 1])
        self.assertEqual(broken_ranges(d), [(2 ** 98, 2 ** 98 + 2 ** 97)])

    def test_several_damages_are_nested_or_disjoint(self):
        for scheme in schemes(((2, 1), (3, 2), (10, 1))):
            for one in range(1, 60):
                for other in range(one + 1, 60):
                    d = Archive(scheme, damaged=[one, other])
                    first, second = scheme.block(one), scheme.block(other)
                    nested = second[1] <= first[1]
                    joined = [first] if nested else [(first[0], second[1])]
                    expected = joined if nested or first[1] == second[0] else [first, second]
                    self.assertEqual(broken_ranges(d), expected, (named(scheme), one, other))

    def test_the_list_belongs_to_the_caller(self):
        broken_ranges(D).clear()
        self.assertEqual(len(broken_ranges(D)), 2)


class Counts(unittest.TestCase):

    def test_example(self):
        self.assertEqual(count_broken(D, 4760), 3)

    def test_time_by_time(self):
        for archive in small_archives() + drawn_archives("counts", 25):
            broken = broken_numbers(archive, SPAN)
            for time in (*range(0, 80), 100, 127, 128, SPAN - 1):
                expected = len([n for n in broken if walked_archive_kept(archive, n, time)])
                self.assertEqual(count_broken(archive, time), expected, (parts_of(archive), time))

    def test_late_times_keep_only_what_is_pinned(self):
        d = Archive(Scheme(10, 2), damaged=[4700], pinned=[4705, 4801])
        self.assertEqual(count_broken(d, 10 ** 29), 2)
        self.assertEqual(count_broken(d, 4705), 4)

    def test_a_damaged_0_breaks_all_that_is_kept(self):
        d = Archive(Scheme(10, 1), damaged=[0])
        self.assertEqual(count_broken(d, 10 ** 20), 22)
        self.assertEqual(count_broken(d, 0), 1)

    def test_thirty_digits(self):
        with soon():
            top = 10 ** 29
            d = Archive(Scheme(10, 10 ** 6), damaged=[top])
            self.assertEqual(count_broken(d, top), 1)
            self.assertEqual(count_broken(d, top + 10 ** 6), 10 ** 6 + 1)
            self.assertEqual(count_broken(d, top - 1), 0)

    def test_full_lists(self):
        with soon():
            top = 2 ** 99 - 4096
            d = crowded_archive(Scheme(2, 3), top)
            for time in (2 ** 98, top + 401, top + 900, 2 ** 99 + 5):
                expected = [n for n in range(top, top + 4096) if d.is_kept(n, time) and d.is_broken(n)]
                self.assertEqual(count_broken(d, time), len(expected))
            self.assertGreaterEqual(len(expected), 400)


class Forgotten(unittest.TestCase):

    def test_example(self):
        self.assertEqual(forgotten_from(D), 4901)

    def test_time_by_time(self):
        seen = set()
        for archive in small_archives() + drawn_archives("forgotten", 60, 40):
            broken = broken_numbers(archive, SPAN)
            horizon = 450
            kept = [time for time in range(horizon) if any(archive.is_kept(n, time) for n in broken)]
            expected = kept[-1] + 1 if kept else 0
            if expected == horizon:
                expected = None
            self.assertEqual(forgotten_from(archive), expected, parts_of(archive))
            seen.add(expected is None)
        self.assertEqual(seen, {True, False})

    def test_one_more_than_the_greatest_last_time(self):
        for scheme in schemes(((2, 1), (3, 2), (10, 1), (10, 5))):
            for damaged in ([5], [8], [7, 9], [10, 11, 30], [1, 27, 64]):
                last = max(scheme.last_time(number) for number in damaged)
                self.assertEqual(forgotten_from(Archive(scheme, damaged=damaged)), last + 1)

    def test_nothing_is_broken(self):
        self.assertEqual(forgotten_from(Archive(Scheme(10, 2))), 0)
        self.assertEqual(forgotten_from(Archive(Scheme(10, 2), pinned=[0, 7], full=[7], missing=[8])), 0)

    def test_a_damaged_0(self):
        self.assertIsNone(forgotten_from(Archive(Scheme(10, 2), damaged=[0])))
        self.assertIsNone(forgotten_from(Archive(Scheme(10, 2), damaged=[0], full=[0, 1, 2])))

    def test_pinned_numbers(self):
        for pinned, expected in (([4705], None), ([4700], None), ([4799], None), ([4750, 4755], 4901),
                                 ([4699, 4800], 4901), ([0, 4000], 4901)):
            d = Archive(Scheme(10, 2), damaged=[4700], full=[4750], pinned=pinned)
            self.assertEqual(forgotten_from(d), expected, pinned)

    def test_missing_numbers(self):
        d = Archive(Scheme(10, 2), damaged=[4710], missing=[4000, 4700])
        self.assertEqual(forgotten_from(d), 4731)

    def test_thirty_digits(self):
        self.assertEqual(forgotten_from(Archive(Scheme(10, 2), damaged=[10 ** 29])), 3 * 10 ** 29 + 1)
        self.assertEqual(forgotten_from(Archive(Scheme(2, 10 ** 6), damaged=[1, 2 ** 98])), (10 ** 6 + 1) * 2 ** 98 + 1)


if __name__ == "__main__":
    unittest.main()
