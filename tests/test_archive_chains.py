"""Points 22 to 24: chains of archives, what is kept, and what is broken."""

import unittest

from snapdigits.archives import Archive
from snapdigits.schemes import Scheme

from archive_samples import small_archives
from digits import walked_chain
from walks import soon, walked_archive_chain, walked_archive_kept

SPAN = 140


def taken(archive):
    return [number for number in range(SPAN) if number not in archive.missing()]


class Chains(unittest.TestCase):

    def test_example(self):
        a = Archive(Scheme(10, 2), missing=[4700], full=[4000])
        self.assertEqual((a.parent(4705), a.chain(4705)), (4000, [4705, 4000]))

    def test_walks(self):
        for archive in small_archives():
            for number in taken(archive):
                chain = walked_archive_chain(archive, number)
                self.assertEqual(archive.chain(number), chain)
                self.assertEqual(archive.parent(number), (chain + [None])[1])

    def test_each_parent_begins_the_rest_of_the_chain(self):
        for archive in small_archives():
            for number in taken(archive):
                chain = archive.chain(number)
                if archive.parent(number) is None:
                    self.assertTrue(number == 0 or number in archive.full())
                    self.assertEqual(chain, [number])
                else:
                    self.assertEqual(chain, [number] + archive.chain(archive.parent(number)))

    def test_without_lists_it_is_the_chain_of_the_scheme(self):
        for base in (2, 3, 10, 1000):
            for number in (*range(200), 10 ** 29, 10 ** 30 - 1, 2 ** 99 - 1):
                a = Archive(Scheme(base, 1), pinned=[5], damaged=[7])
                self.assertEqual(a.chain(number), walked_chain(base, number))

    def test_missing_numbers_in_a_row_of_ancestors(self):
        a = Archive(Scheme(10, 2), missing=[4000, 4700, 4750])
        self.assertEqual((a.parent(4753), a.chain(4753)), (0, [4753, 0]))
        self.assertEqual(a.chain(4760), [4760, 0])
        a = Archive(Scheme(10, 2), missing=[4700, 4750], full=[4000])
        self.assertEqual((a.parent(4753), a.chain(4753)), (4000, [4753, 4000]))
        a = Archive(Scheme(10, 2), missing=[4000, 4700], full=[4750])
        self.assertEqual(a.chain(4753), [4753, 4750])

    def test_full_numbers(self):
        a = Archive(Scheme(10, 2), full=[0, 4700, 4705])
        self.assertEqual([a.parent(0), a.parent(4700), a.parent(4705)], [None, None, None])
        self.assertEqual([a.chain(0), a.chain(4700), a.chain(4705)], [[0], [4700], [4705]])
        self.assertEqual([a.chain(4706), a.chain(4800)], [[4706, 4700], [4800, 4000, 0]])

    def test_a_full_number_that_is_damaged_or_pinned(self):
        for name in ("pinned", "damaged"):
            a = Archive(Scheme(10, 2), full=[4700], **{name: [4700]})
            self.assertEqual((a.parent(4700), a.chain(4705)), (None, [4705, 4700]))

    def test_thirty_digits(self):
        top = 7 * 10 ** 29
        a = Archive(Scheme(10, 2), missing=[top, top + 10 ** 9], full=[top + 10 ** 20])
        self.assertEqual(a.chain(top + 10 ** 9 + 5), [top + 10 ** 9 + 5, 0])
        self.assertEqual(a.chain(top + 10 ** 20 + 5), [top + 10 ** 20 + 5, top + 10 ** 20])
        every = 2 ** 99 - 1
        half = Archive(Scheme(2, 1), missing=[2 ** 99 - 2 ** k for k in range(98, 0, -2)])
        self.assertEqual(half.chain(every), [2 ** 99 - 2 ** k for k in range(0, 99) if k == 0 or k % 2 == 1] + [0])

    def test_the_list_belongs_to_the_caller(self):
        a = Archive(Scheme(10, 2), missing=[4700], full=[4000])
        a.chain(4705).clear()
        a.chain(4000).append(0)
        self.assertEqual((a.chain(4705), a.chain(4000)), ([4705, 4000], [4000]))


class Kept(unittest.TestCase):

    def test_example(self):
        p = Archive(Scheme(10, 1), pinned=[4705])
        self.assertEqual(p.pinned_members(4900), [4700, 4705])
        self.assertEqual(p.pinned_members(5000), [4700, 4705])
        self.assertEqual(p.pinned_members(5001), [4000, 4700, 4705])

    def test_walks(self):
        for archive in small_archives():
            for time in (*range(0, 130, 3), 15, 47, 63, 113, 127, 1000):
                kept = [n for n in range(SPAN) if walked_archive_kept(archive, n, time)]
                self.assertEqual([n for n in range(SPAN) if archive.is_kept(n, time)], kept)
                only = [n for n in kept if not archive.scheme().is_kept(n, time)]
                self.assertEqual(archive.pinned_members(time), only)

    def test_chains_of_kept_numbers_are_kept(self):
        for archive in small_archives():
            for time in range(0, 130, 7):
                for number in taken(archive):
                    if archive.is_kept(number, time):
                        self.assertTrue(all(archive.is_kept(member, time) for member in archive.chain(number)))

    def test_answers_are_true_or_false(self):
        a = Archive(Scheme(10, 1), missing=[4], pinned=[2, 4705])
        for number, time, expected in (
                (4, 4, False), (4, 10 ** 29, False), (2, 1, False), (2, 2, True), (2, 10 ** 29, True),
                (4700, 4704, True), (4700, 10 ** 29, True), (4800, 10 ** 29, False), (3, 4, True), (3, 5, False)):
            self.assertIs(a.is_kept(number, time), expected, (number, time))

    def test_a_pinned_number_above_the_time_holds_nothing(self):
        p = Archive(Scheme(10, 1), pinned=[5, 4705])
        self.assertEqual(p.pinned_members(4), [])
        self.assertEqual(p.pinned_members(4704), [5])
        self.assertIs(p.is_kept(4000, 4704), True)
        p = Archive(Scheme(2, 1), pinned=[2 ** 20 + 1])
        self.assertEqual(p.pinned_members(2 ** 20), [])
        self.assertEqual(p.pinned_members(2 ** 21 + 1), [2 ** 20, 2 ** 20 + 1])

    def test_the_chain_ends_at_a_full_number(self):
        p = Archive(Scheme(10, 1), pinned=[4705], full=[4700])
        self.assertEqual(p.pinned_members(10 ** 6), [4700, 4705])
        self.assertIs(p.is_kept(4000, 10 ** 6), False)

    def test_missing_members_are_not_held(self):
        p = Archive(Scheme(10, 1), pinned=[4705], missing=[4700])
        self.assertEqual(p.pinned_members(10 ** 6), [4000, 4705])
        self.assertIs(p.is_kept(4700, 4705), False)

    def test_0_is_never_kept_only_because_it_is_pinned(self):
        p = Archive(Scheme(10, 1), pinned=[0])
        self.assertEqual([p.pinned_members(time) for time in (0, 1, 10 ** 29)], [[], [], []])

    def test_common_members_are_listed_once(self):
        p = Archive(Scheme(10, 1), pinned=[4701, 4705, 4710])
        self.assertEqual(p.pinned_members(10 ** 6), [4000, 4700, 4701, 4705, 4710])

    def test_200_pinned_numbers_of_thirty_digits(self):
        with soon():
            pins = [2 ** 99 - 1 - 2 * k for k in range(199, -1, -1)]
            p = Archive(Scheme(2, 1), pinned=pins)
            members = p.pinned_members(10 ** 31)
            expected = sorted({member for pin in pins for member in walked_chain(2, pin)} - {0})
            self.assertEqual(members, expected)
            self.assertTrue(all(p.is_kept(member, 10 ** 31) for member in members))

    def test_the_list_belongs_to_the_caller(self):
        p = Archive(Scheme(10, 1), pinned=[4705])
        p.pinned_members(4900).clear()
        self.assertEqual(p.pinned_members(4900), [4700, 4705])


class Broken(unittest.TestCase):

    def test_example(self):
        d = Archive(Scheme(10, 2), damaged=[4700], full=[4750])
        self.assertEqual([d.is_broken(number) for number in (4705, 4760, 4750, 4753)], [True, True, False, False])
        self.assertIs(d.is_broken(4700), True)
        self.assertIs(d.is_broken(4699), False)
        self.assertIs(d.is_broken(4800), False)

    def test_walks(self):
        for archive in small_archives():
            for number in taken(archive):
                harmed = any(member in archive.damaged() for member in walked_archive_chain(archive, number))
                self.assertIs(archive.is_broken(number), harmed)
                for time in (0, number, number + 1, number + 5, 100, 130):
                    expected = walked_archive_kept(archive, number, time) and not harmed
                    self.assertIs(archive.is_restorable(number, time), expected)

    def test_missing_numbers_are_not_restorable(self):
        for archive in small_archives():
            for number in archive.missing():
                for time in (0, number, number + 1, 10 ** 29):
                    self.assertIs(archive.is_restorable(number, time), False)

    def test_a_full_number_that_is_damaged(self):
        d = Archive(Scheme(10, 2), damaged=[4700, 4750], full=[4750, 4755])
        self.assertEqual([d.is_broken(number) for number in (4750, 4753, 4755)], [True, True, False])
        self.assertIs(d.is_restorable(4755, 4755), True)
        self.assertIs(d.is_restorable(4755, 4758), False)

    def test_0_is_damaged(self):
        d = Archive(Scheme(10, 2), damaged=[0], full=[4000])
        self.assertEqual([d.is_broken(number) for number in (0, 5, 3999, 5000, 10 ** 29)], [True] * 5)
        self.assertEqual([d.is_broken(number) for number in (4000, 4001, 4999)], [False] * 3)
        self.assertIs(Archive(Scheme(10, 2), damaged=[0], full=[0]).is_broken(0), True)

    def test_a_missing_number_between(self):
        d = Archive(Scheme(10, 2), damaged=[4000], missing=[4700])
        self.assertIs(d.is_broken(4705), True)
        self.assertIs(d.is_broken(5000), False)

    def test_a_pinned_number_is_restorable_at_late_times(self):
        d = Archive(Scheme(10, 2), damaged=[4710], pinned=[4705, 4715])
        self.assertEqual([d.is_restorable(number, 10 ** 29) for number in (4705, 4700, 4715)], [True, True, False])
        self.assertIs(d.is_restorable(4706, 10 ** 29), False)

    def test_thirty_digits(self):
        top = 7 * 10 ** 29
        d = Archive(Scheme(10, 2), damaged=[top + 10 ** 20], full=[top + 10 ** 20 + 10 ** 10])
        for number, expected in (
                (top, False), (top + 10 ** 20, True), (top + 10 ** 20 + 1, True), (top + 2 * 10 ** 20 - 1, True),
                (top + 2 * 10 ** 20, False), (top + 10 ** 20 + 10 ** 10 + 7, False),
                (top + 10 ** 20 + 2 * 10 ** 10, True)):
            self.assertIs(d.is_broken(number), expected, number)
            self.assertIs(d.is_restorable(number, number), not expected, number)


if __name__ == "__main__":
    unittest.main()
