"""Points 41 to 45: the change from one scheme to another one."""

import unittest

from snapdigits.change import Change
from snapdigits.errors import InvalidScheme
from snapdigits.kept import kept_between
from snapdigits.schemes import Scheme

from digits import walked_parent
from raising import RaisingCase
from samples import OwnInt, no_numbers
from walks import LONG_TIMES, soon, walked_kept

PAIRS = [(Scheme(base, factor), Scheme(base ** power, other))
         for base, powers in ((2, (1, 2, 3)), (3, (1, 2)), (5, (1, 2)), (10, (1, 2)))
         for power in powers
         for factor, other in ((1, 1), (1, 3), (3, 1), (2, 5), (7, 2))]
LONG_PAIRS = [(Scheme(*old), Scheme(*new)) for old, new in (
    ((2, 1), (2, 2)), ((2, 2), (2, 1)), ((2, 1), (4, 3)), ((2, 3), (8, 1)), ((2, 1), (512, 1)), ((3, 2), (9, 2)),
    ((3, 1), (729, 1)), ((10, 1), (10, 4)), ((10, 9), (100, 2)), ((10, 2), (1000, 1)), ((31, 3), (961, 1)))]
X = Change(Scheme(2, 1), Scheme(4, 3), 20)


def told(old, new, *times):
    """What a failed test shows."""
    return (old.base(), old.factor(), new.base(), new.factor(), *times)


def walked_gone(old, new, changed, time):
    return [n for n in range(changed + 1) if new.is_kept(n, time) and not old.is_kept(n, changed)]


class Parts(RaisingCase):

    def test_parts(self):
        old, new = Scheme(2, 1), Scheme(4, 3)
        for time in (0, 20, 10 ** 29):
            change = Change(old, new, time)
            self.assertEqual((change.old(), change.new(), change.changed_at()), (old, new, time))
            self.assertEqual((change.old(), change.new()), (Scheme(2, 1), Scheme(4, 3)))

    def test_parameters(self):
        self.assert_parameters(Change, ["old", "new", "time"])
        for name, parameters in (("is_kept", ["self", "number", "time"]), ("is_gone", ["self", "number", "time"]),
                                 ("gone_count", ["self", "time"]), ("next_gone", ["self", "number", "time"]),
                                 ("settled_from", ["self"]), ("dropped_count", ["self"]),
                                 ("is_moved", ["self", "number"]), ("moved_count", ["self"]),
                                 ("old", ["self"]), ("new", ["self"]), ("changed_at", ["self"])):
            self.assertIn(name, vars(Change))
            self.assert_parameters(getattr(Change, name), parameters)

    def test_arguments_by_name(self):
        change = Change(time=20, new=Scheme(4, 3), old=Scheme(2, 1))
        self.assertEqual(change.gone_count(time=20), 3)
        self.assertEqual(change.next_gone(time=20, number=9), 12)
        self.assertIs(change.is_gone(time=20, number=12), True)
        self.assertIs(change.is_kept(time=20, number=12), False)
        self.assertIs(change.is_moved(number=19), True)

    def test_powers(self):
        for old, new in ((2, 2), (2, 4), (2, 8), (2, 512), (3, 729), (10, 1000), (31, 961), (1000, 1000), (7, 343)):
            self.assertEqual(Change(Scheme(old, 1), Scheme(new, 1), 3).new().base(), new)

    def test_bases_that_are_no_power(self):
        for old, new in ((2, 6), (4, 2), (4, 8), (2, 3), (10, 20), (6, 12), (12, 144 * 6), (10, 101), (1000, 999)):
            error = self.raised(InvalidScheme, Change, Scheme(old, 1), Scheme(new, 1), 3)
            self.assertEqual(error.part, "base")

    def test_every_pair_of_bases(self):
        for old in range(2, 40):
            powers = [old ** k for k in range(1, 11)]
            for new in range(2, 130):
                if new in powers:
                    Change(Scheme(old, 1), Scheme(new, 1), 0)
                else:
                    self.raised(InvalidScheme, Change, Scheme(old, 1), Scheme(new, 1), 0)

    def test_the_base_comes_before_the_time(self):
        for value in no_numbers():
            self.assert_time(value, Change, Scheme(2, 1), Scheme(4, 1), value)
            error = self.raised(InvalidScheme, Change, Scheme(2, 1), Scheme(6, 1), value)
            self.assertEqual(error.part, "base")


class Near(unittest.TestCase):

    def test_examples(self):
        self.assertEqual([X.gone_count(20), X.next_gone(9, 20), X.settled_from(), X.moved_count()], [3, 12, 25, 1])
        self.assertEqual([X.is_kept(16, 20), X.is_kept(12, 20), X.is_gone(12, 24), X.is_gone(12, 25)],
                         [True, False, True, False])
        self.assertEqual([n for n in range(30) if X.is_gone(n, 20)], [8, 12, 17])
        self.assertEqual(Change(Scheme(2, 3), Scheme(2, 1), 8).dropped_count(), 2)

    def test_kept_and_gone_number_by_number(self):
        for old, new in PAIRS:
            for changed in (0, 1, 2, 7, 20, 33, 64, 81):
                change = Change(old, new, changed)
                for time in (changed, changed + 1, changed + 5, changed + 30):
                    for number in range(time + 3):
                        dropped = number <= changed and not old.is_kept(number, changed)
                        kept = new.is_kept(number, time)
                        self.assertIs(change.is_kept(number, time), kept and not dropped)
                        self.assertIs(change.is_gone(number, time), kept and dropped)

    def test_what_is_gone_time_by_time(self):
        several = 0
        for old, new in PAIRS:
            for changed in (*range(0, 40), 50, 64, 80, 81, 99, 100, 125, 128, 200):
                change = Change(old, new, changed)
                for time in (changed, changed + 1, changed + 2, changed + 9, 2 * changed, 5 * changed):
                    gone = walked_gone(old, new, changed, time)
                    several += len(gone) > 3
                    self.assertEqual(change.gone_count(time), len(gone), told(old, new, changed, time))
                    for number in (0, 1, changed // 3, changed // 2, changed - 1, changed, changed + 1, time + 1):
                        later = [n for n in gone if n >= number]
                        expected = later[0] if later else None
                        if number >= 0:
                            self.assertEqual(change.next_gone(number, time), expected, told(old, new, changed, time))
        self.assertGreater(several, 100)

    def test_settled_time_by_time(self):
        late = 0
        for old, new in PAIRS:
            for changed in (*range(0, 45), 63, 64, 81, 99, 100, 110):
                gone = walked_gone(old, new, changed, changed)
                settled = changed
                for time in range(changed, changed * (new.factor() + 2)):
                    if any(new.is_kept(number, time) for number in gone):
                        settled = time + 1
                change = Change(old, new, changed)
                self.assertEqual(change.settled_from(), settled, told(old, new, changed))
                self.assertEqual(change.gone_count(settled), 0)
                if settled > changed:
                    late += 1
                    self.assertGreater(change.gone_count(settled - 1), 0)
        self.assertGreater(late, 100)

    def test_from_then_on_exactly_the_new_numbers_are_kept(self):
        for old, new in PAIRS:
            for changed in (5, 33, 64):
                change = Change(old, new, changed)
                time = change.settled_from()
                kept = [n for n in range(time + 1) if change.is_kept(n, time)]
                self.assertEqual(kept, walked_kept(new, time))

    def test_dropped_and_moved(self):
        moved_some = 0
        for old, new in PAIRS:
            for changed in (*range(0, 130), 200, 243, 256, 300):
                change = Change(old, new, changed)
                before = walked_kept(old, changed)
                dropped = [n for n in before if not new.is_kept(n, changed)]
                self.assertEqual(change.dropped_count(), len(dropped), told(old, new, changed))
                moved = [n for n in before if new.is_kept(n, changed)
                         and walked_parent(old.base(), n) != walked_parent(new.base(), n)]
                self.assertEqual(change.moved_count(), len(moved), told(old, new, changed))
                if changed < 60:
                    found = [n for n in range(changed + 5) if change.is_moved(n)]
                    self.assertEqual(found, moved, told(old, new, changed))
                moved_some += len(moved) > 2
        self.assertGreater(moved_some, 100)

    def test_equal_bases_move_nothing(self):
        for base in (2, 3, 10, 1000):
            for changed in (0, 9, 100, 10 ** 29):
                self.assertEqual(Change(Scheme(base, 2), Scheme(base, 3), changed).moved_count(), 0)

    def test_the_same_scheme(self):
        for changed in (0, 9, 100, 10 ** 29):
            change = Change(Scheme(3, 2), Scheme(3, 2), changed)
            self.assertEqual([change.gone_count(changed), change.next_gone(0, changed), change.settled_from(),
                              change.dropped_count(), change.moved_count()], [0, None, changed, 0, 0])

    def test_the_old_parent_may_be_dropped_earlier(self):
        change = Change(Scheme(2, 1), Scheme(4, 1), 13)
        self.assertEqual([change.is_moved(12), change.is_kept(12, 16), change.is_kept(8, 16)], [True, True, False])

    def test_the_new_parent_of_a_kept_number_is_kept(self):
        for old, new in PAIRS:
            change = Change(old, new, 50)
            for time in range(50, 120, 7):
                for number in range(1, time + 1):
                    if change.is_kept(number, time):
                        self.assertIs(change.is_kept(new.parent(number), time), True)
                        self.assertIn(new.parent(number), old.chain(number))

    def test_answers_are_true_or_false(self):
        self.assertIs(X.is_moved(0), False)
        self.assertIs(X.is_moved(19), True)
        self.assertIs(X.is_moved(21), False)
        self.assertIs(X.is_gone(0, 20), False)
        self.assertIs(X.is_kept(0, 10 ** 29), True)


class Far(unittest.TestCase):

    def test_what_is_gone(self):
        with soon(200):
            stepped = 0
            for old, new in LONG_PAIRS:
                for changed in LONG_TIMES:
                    change = Change(old, new, changed)
                    for time in (changed, changed + 1, changed + changed // 7):
                        kept = kept_between(new, time, 0, changed)
                        gone = [n for n in kept if not old.is_kept(n, changed)]
                        self.assertEqual(change.gone_count(time), len(gone), told(old, new, changed, time))
                        found = []
                        number = change.next_gone(0, time)
                        while number is not None and len(found) <= len(gone):
                            found.append(number)
                            number = change.next_gone(number + 1, time)
                        self.assertEqual(found, gone, told(old, new, changed, time))
                        stepped += len(gone)
            self.assertGreater(stepped, 1000)

    def test_settled_dropped_and_moved(self):
        with soon(200):
            for old, new in LONG_PAIRS:
                for changed in LONG_TIMES:
                    change = Change(old, new, changed)
                    gone = [n for n in kept_between(new, changed, 0, changed) if not old.is_kept(n, changed)]
                    settled = max([changed] + [new.last_time(n) + 1 for n in gone])
                    self.assertEqual(change.settled_from(), settled, told(old, new, changed))
                    self.assertEqual(change.gone_count(settled), 0)
                    before = kept_between(old, changed, 0, changed)
                    both = [n for n in before if new.is_kept(n, changed)]
                    self.assertEqual(change.dropped_count(), len(before) - len(both))
                    moved = [n for n in both if old.parent(n) != new.parent(n)]
                    self.assertEqual(change.moved_count(), len(moved), told(old, new, changed))
                    self.assertTrue(all(change.is_moved(n) for n in moved))

    def test_many_numbers(self):
        with soon():
            changed = 123456789012345678901234567890
            change = Change(Scheme(2, 1), Scheme(4, 10 ** 6), changed)
            count = change.gone_count(changed)
            self.assertGreater(count, 10 ** 6)
            self.assertEqual(change.dropped_count(), 0)
            self.assertEqual(change.gone_count(change.settled_from()), 0)
            self.assertEqual(change.gone_count(change.settled_from() - 1), 1)
            change = Change(Scheme(2, 10 ** 6), Scheme(4, 10 ** 6), changed)
            self.assertGreater(change.moved_count(), 10 ** 6)


class Wrong(RaisingCase):

    def test_numbers(self):
        for value in no_numbers():
            for time in (20, 30, 19, -1, None, [value]):
                for call in (X.is_kept, X.is_gone, X.next_gone):
                    self.assert_number(value, call, value, time)
            self.assert_number(value, X.is_moved, value)

    def test_times(self):
        for value in (*no_numbers(), 0, 19):
            for call in (X.is_kept, X.is_gone, X.next_gone):
                self.assert_time(value, call, 5, value)
                self.assert_time(value, call, 10 ** 29, value)
            self.assert_time(value, X.gone_count, value)

    def test_an_int_of_a_subclass(self):
        self.assertEqual(X.next_gone(OwnInt(9), OwnInt(20)), 12)


if __name__ == "__main__":
    unittest.main()
