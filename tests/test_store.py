"""Points 55 to 58: a store over time."""

import random
import unittest

from snapdigits.archives import Archive
from snapdigits.errors import SnapError
from snapdigits.schemes import Scheme
from snapdigits.store import Store, replay

from plain_store import PlainStore, Refused
from raising import RaisingCase
from samples import EqualToAll, OwnInt, Stubborn, deep_list, no_integers, no_numbers
from walks import soon

METHODS = {
    "scheme": [], "time_now": [], "archive": [], "planned": [], "take": ["count"], "skip": ["count"],
    "damage": ["number"], "pin": ["number"], "unpin": ["number"], "plan": [], "tidy": [], "log": [],
    "undo": ["count"], "__eq__": ["other"],
}


def everything(store):
    """All that can be seen of a store."""
    archive = store.archive()
    lists = {"missing": archive.missing(), "full": archive.full(), "pinned": archive.pinned(),
             "damaged": archive.damaged(), "planned": store.planned()}
    return (store.time_now(), lists, store.log())


def outcome(call, *arguments):
    """("returned", value), or the name and the field of the error that is raised."""
    try:
        return ("returned", call(*arguments))
    except Refused as refused:
        return refused.told
    except SnapError as error:
        return (error.__class__.__name__, list(vars(error).values())[0])


def busy_store():
    """A store in which every kind of call has changed something."""
    t = Store(Scheme(10, 2))
    t.take(4768)
    t.damage(4700)
    t.plan()
    t.pin(4766)
    t.skip(1)
    t.take(5)
    t.pin(4000)
    t.unpin(4000)
    return t


class Beginning(RaisingCase):

    def test_parameters(self):
        self.assert_parameters(Store, ["scheme"])
        self.assert_parameters(replay, ["scheme", "log"])
        for name, parameters in METHODS.items():
            self.assertIn(name, vars(Store))
            self.assert_parameters(getattr(Store, name), ["self", *parameters])

    def test_a_new_store(self):
        scheme = Scheme(10, 2)
        t = Store(scheme)
        self.assertEqual((t.scheme(), t.time_now(), t.planned(), t.log()), (scheme, 0, [], []))
        self.assertEqual(t.archive(), Archive(scheme))

    def test_no_scheme(self):
        for value in (*no_numbers(), 5, Scheme, Archive(Scheme(2, 2)), Store(Scheme(2, 2)), (10, 2)):
            self.assert_archive("scheme", -1, Store, value)
            self.assert_archive("scheme", -1, replay, value, [])
            self.assert_archive("scheme", -1, replay, value, None)

    def test_arguments_by_name(self):
        t = Store(scheme=Scheme(10, 2))
        self.assertEqual(t.take(count=5), 5)
        self.assertEqual(t.skip(count=2), 7)
        t.damage(number=5)
        t.pin(number=5)
        t.unpin(number=5)
        t.undo(count=1)
        self.assertEqual(t.archive(), Archive(Scheme(10, 2), missing=[6, 7], pinned=[5], damaged=[5]))
        self.assertEqual(replay(log=t.log(), scheme=Scheme(10, 2)), t)


class Calls(RaisingCase):

    def test_example(self):
        t = Store(Scheme(10, 2))
        self.assertEqual(t.take(4768), 4768)
        self.assertIsNone(t.damage(4700))
        self.assertEqual(t.plan(), [4769, 4770, 4780, 4790])
        self.assertEqual(t.planned(), [4769, 4770, 4780, 4790])
        self.assertEqual(t.take(40), 4808)
        self.assertEqual((t.archive().full(), t.planned()), ([4769, 4770, 4780, 4790], []))

    def test_example_of_a_number_that_is_not_kept(self):
        t = Store(Scheme(10, 2))
        t.take(4)
        self.assert_number(1, t.pin, 1)

    def test_take_some_of_the_planned_numbers(self):
        t = Store(Scheme(10, 2))
        t.take(4768)
        t.damage(4700)
        t.plan()
        self.assertEqual(t.take(2), 4770)
        self.assertEqual((t.archive().full(), t.planned()), ([4769, 4770], [4780, 4790]))

    def test_skip_some_of_the_planned_numbers(self):
        t = Store(Scheme(10, 2))
        t.take(4768)
        t.damage(4700)
        t.plan()
        self.assertEqual(t.skip(2), 4770)
        self.assertEqual((t.archive().missing(), t.archive().full()), ([4769, 4770], []))
        self.assertEqual(t.planned(), [4780, 4790])
        self.assertEqual(t.plan(), [*range(4771, 4780), 4780, 4790])

    def test_take_10_to_the_20(self):
        t = Store(Scheme(10, 2))
        self.assertEqual(t.take(10 ** 20), 10 ** 20)
        self.assertEqual(t.take(10 ** 20), 2 * 10 ** 20)
        self.assert_bound("count", t.take, 10 ** 20 + 1)
        t.damage(10 ** 20)
        members = t.plan()
        self.assertEqual(members, [])
        t.damage(2 * 10 ** 20)
        self.assertEqual(len(t.plan()), 20 * 9)

    def test_counts(self):
        t = Store(Scheme(10, 2))
        for value in (*no_numbers(), 0, 10 ** 20 + 1, 10 ** 29):
            self.assert_bound("count", t.take, value)
        for value in (*no_numbers(), 0, 201, 10 ** 20):
            self.assert_bound("count", t.skip, value)
        for value in (*no_numbers(), 1):
            self.assert_bound("count", t.undo, value)
        self.assertEqual(everything(t), everything(Store(Scheme(10, 2))))

    def test_numbers(self):
        t = Store(Scheme(10, 2))
        t.take(30)
        t.skip(1)
        t.pin(20)
        t.damage(30)
        before = everything(t)
        for value in (*no_numbers(), 1, 5, 31, 32, 10 ** 29):
            for call in (t.damage, t.pin, t.unpin):
                self.assert_number(value, call, value)
        self.assert_number(20, t.pin, 20)
        self.assert_number(30, t.damage, 30)
        self.assert_number(30, t.unpin, 30)
        self.assert_number(0, t.unpin, 0)
        self.assertEqual(everything(t), before)

    def test_true_is_no_number(self):
        t = Store(Scheme(10, 2))
        t.take(1)
        t.pin(1)
        for call in (t.unpin, t.damage, t.pin):
            self.assert_number(True, call, True)
        self.assert_number(False, t.damage, False)
        self.assert_bound("count", t.take, True)
        self.assert_bound("count", t.undo, True)
        self.assert_bound("count", t.undo, False)

    def test_a_pinned_number_stays_kept_until_it_is_unpinned(self):
        t = Store(Scheme(10, 1))
        t.take(47)
        t.pin(47)
        t.take(1000)
        t.damage(40)
        t.damage(47)
        self.assertEqual(t.archive(), Archive(Scheme(10, 1), pinned=[47], damaged=[40, 47]))
        t.unpin(47)
        self.assert_number(47, t.pin, 47)

    def test_0(self):
        t = Store(Scheme(10, 2))
        t.pin(0)
        t.damage(0)
        self.assertEqual(t.archive(), Archive(Scheme(10, 2), pinned=[0], damaged=[0]))
        self.assertIsNone(t.plan())
        t.take(100)
        self.assertEqual(t.tidy(), 0)
        self.assertEqual(t.archive().damaged(), [0])

    def test_no_repair_leaves_the_planned_numbers(self):
        t = Store(Scheme(10, 2))
        t.take(4768)
        t.damage(4700)
        t.plan()
        t.damage(0)
        self.assertIsNone(t.plan())
        self.assertEqual(t.planned(), [4769, 4770, 4780, 4790])
        self.assertEqual(t.log()[-1], ("plan",))

    def test_a_new_plan_replaces_the_former(self):
        t = Store(Scheme(10, 2))
        t.take(4768)
        t.damage(4768)
        self.assertEqual(t.plan(), [])
        t.damage(4760)
        self.assertEqual(t.plan(), [4769])
        t.take(31)
        self.assertEqual((t.plan(), t.planned()), ([], []))

    def test_tidy(self):
        t = Store(Scheme(10, 1))
        t.take(40)
        t.skip(3)
        t.take(4)
        t.damage(40)
        t.damage(47)
        self.assertEqual(t.plan(), [48, 49])
        t.take(3)
        # At time 50 the numbers 40, 49 and 50 are kept.
        self.assertEqual(t.archive(), Archive(Scheme(10, 1), missing=[41, 42, 43], full=[48, 49], damaged=[40, 47]))
        self.assertEqual(t.tidy(), 5)
        self.assertEqual(t.archive(), Archive(Scheme(10, 1), full=[49], damaged=[40]))
        self.assertEqual(t.tidy(), 0)
        t.take(1)
        self.assertEqual(t.tidy(), 2)
        self.assertEqual(t.archive(), Archive(Scheme(10, 1)))

    def test_tidy_with_pinned_numbers_in_the_block(self):
        t = Store(Scheme(10, 1))
        t.take(39)
        t.skip(1)
        t.take(5)
        t.pin(45)
        t.damage(45)
        t.take(100)
        # 40 is missing, and 45 is in its block.
        self.assertEqual(t.tidy(), 0)
        self.assertEqual(t.archive(), Archive(Scheme(10, 1), missing=[40], pinned=[45], damaged=[45]))
        t.unpin(45)
        self.assertEqual(t.tidy(), 2)
        self.assertEqual(t.archive(), Archive(Scheme(10, 1)))

    def test_a_number_in_two_lists_is_two_entries(self):
        t = Store(Scheme(10, 1))
        t.take(47)
        t.damage(40)
        t.plan()
        t.take(1)
        t.damage(48)
        t.take(500)
        self.assertEqual(t.archive().full(), [48, 49])
        self.assertEqual(t.tidy(), 4)

    def test_tidy_changes_no_answer_for_kept_numbers(self):
        draw = random.Random("tidy")
        for _ in range(30):
            t = Store(Scheme(draw.choice((2, 3, 10)), draw.choice((1, 2))))
            for _ in range(25):
                name = draw.choice(("take", "skip", "damage", "pin", "plan"))
                argument = [draw.randrange(1, 9)] if name in ("take", "skip") else []
                if name in ("damage", "pin"):
                    argument = [draw.randrange(max(1, t.time_now() - 9), t.time_now() + 2)]
                outcome(getattr(t, name), *argument)
            before = t.archive()
            t.tidy()
            after = t.archive()
            now = t.time_now()
            for number in range(now + 1):
                self.assertIs(after.is_kept(number, now), before.is_kept(number, now))
                if after.is_kept(number, now):
                    self.assertIs(after.is_broken(number), before.is_broken(number))

    def test_results_belong_to_the_caller(self):
        t = busy_store()
        before = everything(t)
        for numbers in (t.planned(), t.log(), t.archive().full(), t.archive().missing()):
            numbers.clear()
        t.archive().damaged().append(5)
        self.assertEqual(everything(t), before)
        t = Store(Scheme(10, 2))
        t.take(4768)
        t.damage(4700)
        t.plan().clear()
        self.assertEqual(t.planned(), [4769, 4770, 4780, 4790])

    def test_an_archive_does_not_change_with_the_store(self):
        t = busy_store()
        archive = t.archive()
        same = t.archive()
        t.take(10)
        t.skip(3)
        t.pin(t.archive().full()[-1])
        self.assertEqual(archive, same)
        self.assertNotEqual(t.archive(), same)

    def test_an_int_of_a_subclass(self):
        t = Store(Scheme(10, 2))
        self.assertEqual(t.take(OwnInt(5)), 5)
        t.pin(OwnInt(5))
        self.assertEqual(t.archive().pinned(), [5])
        t.undo(OwnInt(1))
        self.assertEqual(t.archive().pinned(), [])


class Limits(RaisingCase):

    def assert_200(self, t, call, *arguments):
        before = everything(t)
        self.assert_limit(200, call, *arguments)
        self.assertEqual(everything(t), before)

    def test_200_missing_numbers_and_201(self):
        t = Store(Scheme(10, 2))
        self.assertEqual(t.skip(200), 200)
        self.assert_200(t, t.skip, 1)
        t.undo(1)
        t.skip(150)
        t.skip(50)
        self.assert_200(t, t.skip, 200)
        t.take(1000)
        self.assertEqual(t.tidy(), 200)
        self.assertEqual(t.skip(200), 1400)
        self.assert_200(t, t.skip, 1)

    def test_200_pinned_and_damaged_numbers_and_201(self):
        for name in ("pin", "damage"):
            t = Store(Scheme(10, 1000))
            t.take(300)
            for number in range(200, 0, -1):
                getattr(t, name)(number)
            self.assert_200(t, getattr(t, name), 250)
            # What is wrong with the number comes before the limit.
            self.assert_number(5, getattr(t, name), 5)
            self.assert_number(301, getattr(t, name), 301)
            self.assertEqual(t.archive().pinned() + t.archive().damaged(), list(range(1, 201)))

    def test_take_of_200_planned_numbers(self):
        t = Store(Scheme(1000, 10 ** 6))
        t.take(1799)
        t.damage(1000)
        self.assertEqual(t.plan(), list(range(1800, 2000)))
        t.take(10 ** 4)
        self.assertEqual((t.archive().full(), t.planned()), (list(range(1800, 2000)), []))

    def test_take_of_one_full_number_too_many(self):
        t = Store(Scheme(1000, 10 ** 6))
        t.take(1799)
        t.damage(1000)
        t.plan()
        t.take(200)
        self.assertEqual((t.time_now(), len(t.archive().full())), (1999, 200))
        t.take(998)
        t.damage(2000)
        self.assertEqual(t.plan(), [2998, 2999])
        self.assert_200(t, t.take, 1)
        self.assert_200(t, t.take, 10 ** 20)
        t.skip(1)
        self.assertEqual(t.planned(), [2999])
        self.assert_200(t, t.take, 1)
        t.skip(1)
        t.take(1)
        self.assertEqual((t.time_now(), len(t.archive().full()), t.planned()), (3000, 200, []))

    def test_plan_of_200_numbers_and_201(self):
        t = Store(Scheme(1000, 10 ** 6))
        t.take(1798)
        t.damage(1000)
        self.assert_200(t, t.plan)
        t.take(1)
        self.assertEqual(len(t.plan()), 200)

    def test_a_log_of_1000_entries_and_one_more(self):
        t = Store(Scheme(10, 2))
        for _ in range(999):
            t.take(1)
        self.assertEqual(t.take(1), 1000)
        before = everything(t)
        for call, argument in ((t.take, 1), (t.take, 0), (t.take, None), (t.skip, 1), (t.skip, 201), (t.damage, 1000),
                               (t.damage, -1), (t.pin, 1000), (t.pin, "x"), (t.unpin, 5), (t.unpin, [])):
            self.assert_limit(1000, call, argument)
        self.assert_limit(1000, t.plan)
        self.assert_limit(1000, t.tidy)
        self.assertEqual(everything(t), before)
        self.assert_bound("count", t.undo, 1001)
        t.undo(0)
        self.assert_limit(1000, t.take, 1)
        t.undo(1)
        self.assertEqual(t.take(7), 1006)

    def test_the_log_comes_before_lists_that_are_too_long(self):
        t = Store(Scheme(10, 2))
        t.skip(200)
        for _ in range(999):
            t.tidy()
        self.assert_limit(1000, t.skip, 1)


class Logs(RaisingCase):

    def test_entries(self):
        t = busy_store()
        self.assertEqual(t.tidy(), 1)
        self.assertEqual(t.log(), [("take", 4768), ("damage", 4700), ("plan",), ("pin", 4766), ("skip", 1),
                                   ("take", 5), ("pin", 4000), ("unpin", 4000), ("tidy",)])
        for entry in t.log():
            self.assertIsInstance(entry, tuple)

    def test_an_entry_for_a_call_that_changes_nothing(self):
        t = Store(Scheme(10, 2))
        self.assertEqual((t.plan(), t.tidy(), t.plan()), ([], 0, []))
        self.assertEqual(t.log(), [("plan",), ("tidy",), ("plan",)])
        t.undo(2)
        self.assertEqual(t.log(), [("plan",)])

    def test_a_call_that_raises_is_no_entry(self):
        t = busy_store()
        before = everything(t)
        for name, argument in (("take", 0), ("skip", 201), ("damage", 4700), ("pin", 4766), ("unpin", 5)):
            with self.assertRaises(SnapError):
                getattr(t, name)(argument)
        self.assertEqual(everything(t), before)

    def test_undo(self):
        states = []
        t = Store(Scheme(10, 2))
        for name, *arguments in busy_store().log():
            states.append(everything(t))
            getattr(t, name)(*arguments)
        last = everything(t)
        self.assertIsNone(t.undo(0))
        self.assertEqual(everything(t), last)
        for count in range(1, len(states) + 1):
            t = busy_store()
            self.assertIsNone(t.undo(count))
            self.assertEqual(everything(t), states[-count])
        self.assertEqual(t, Store(Scheme(10, 2)))
        self.assertEqual(t.log(), [])

    def test_undo_and_go_on(self):
        t = busy_store()
        entries = t.log()
        t.undo(5)
        for name, *arguments in entries[-5:]:
            getattr(t, name)(*arguments)
        self.assertEqual(everything(t), everything(busy_store()))
        t.undo(2)
        t.undo(3)
        self.assertEqual(t.log(), entries[:-5])

    def test_undo_of_too_many(self):
        t = busy_store()
        before = everything(t)
        self.assert_bound("count", t.undo, len(t.log()) + 1)
        self.assert_bound("count", t.undo, -1)
        self.assertEqual(everything(t), before)


class Equality(unittest.TestCase):

    def test_equal(self):
        self.assertTrue(Store(Scheme(10, 2)) == Store(Scheme(10, 2)))
        self.assertTrue(busy_store() == busy_store())
        one, other = Store(Scheme(10, 2)), Store(Scheme(10, 2))
        one.take(5)
        other.take(2)
        other.take(3)
        # The logs need not be equal.
        self.assertTrue(one == other)
        one.plan()
        self.assertFalse(one != other)

    def test_not_equal(self):
        def changed(*calls):
            store = Store(Scheme(10, 2))
            store.take(4768)
            for name, *arguments in calls:
                getattr(store, name)(*arguments)
            return store

        stores = [
            Store(Scheme(10, 2)), Store(Scheme(10, 3)), Store(Scheme(2, 2)), changed(), changed(("take", 1)),
            changed(("skip", 1)), changed(("pin", 4768)), changed(("damage", 4768)), changed(("damage", 4767)),
            changed(("damage", 4700)), changed(("damage", 4700), ("plan",)),
        ]
        for at, one in enumerate(stores):
            for place, other in enumerate(stores):
                self.assertIs(one == other, at == place)
                self.assertIs(one != other, at != place)

    def test_equal_to_nothing_else(self):
        t = Store(Scheme(10, 2))
        for value in (*no_numbers(), 0, Scheme(10, 2), Archive(Scheme(10, 2)), t.archive(), EqualToAll()):
            self.assertIs(t == value, False)


class Replay(RaisingCase):

    def test_it_leads_to_the_same_store(self):
        t = busy_store()
        again = replay(Scheme(10, 2), t.log())
        self.assertEqual(everything(again), everything(t))
        self.assertEqual(again, t)
        again.undo(3)
        self.assertNotEqual(again, t)
        self.assertEqual(everything(t), everything(busy_store()))

    def test_an_empty_log(self):
        self.assertEqual(everything(replay(Scheme(2, 1), [])), everything(Store(Scheme(2, 1))))

    def test_the_log_is_copied(self):
        log = busy_store().log()
        t = replay(Scheme(10, 2), log)
        log.clear()
        self.assertEqual(everything(t), everything(busy_store()))
        t.take(1)
        self.assertEqual(log, [])

    def test_no_list(self):
        for value in (None, (), (("take", 5),), "plan", {}, {0: ("take", 5)}, 5, True, Stubborn(), iter([])):
            self.assert_archive("log", -1, replay, Scheme(10, 2), value)

    def test_an_invalid_entry_at_any_index(self):
        log = busy_store().log()
        wrong = [
            ("take", 0), ("take", 10 ** 20 + 1), ("take", -1), ("take", True), ("take", None), ("take", "5"),
            ("take", [5]), ("take",), ("take", 5, 5), ("skip", 201), ("skip", 0), ("skip",), ("damage", 10 ** 6),
            ("damage", None), ("damage",), ("pin", 10 ** 6), ("pin", {}), ("pin",), ("unpin", 10 ** 6), ("unpin",),
            ("unpin", True), ("plan", 5), ("plan", None), ("plan", ()), ("tidy", 0), ("tidy", None), ("undo", 0),
            ("undo", 1), ("log",), ("archive",), ("time_now",), ("scheme",), ("planned",), ("Take", 5), ("", 5), ("",),
            ("enter", ()), ("__init__", Scheme(10, 2)), (), (5,), (None,), ([],), (["plan"],), (("plan",),),
            (EqualToAll(),), (EqualToAll(), 5), (Stubborn(), 5), ("take", Stubborn()), ["take", 5], ["plan"], "plan",
            "take", None, 5, True, {}, {"take": 5}, {"plan"}, Stubborn(), b"plan", (b"plan",), deep_list(2000),
            ("take", deep_list(2000)), ("pin", deep_list(2000)),
        ]
        for entry in wrong:
            for at in (0, 1, 4, len(log)):
                self.assert_archive("log", at, replay, Scheme(10, 2), log[:at] + [entry] + log[at:])
            self.assert_archive("log", 2, replay, Scheme(10, 2), log[:2] + [entry, entry])

    def test_items_of_every_kind(self):
        for value in no_integers():
            self.assert_archive("log", 1, replay, Scheme(10, 2), [("plan",), value])
            for name in ("take", "skip", "damage", "pin", "unpin"):
                self.assert_archive("log", 1, replay, Scheme(10, 2), [("plan",), (name, value)])
            self.assert_archive("log", 0, replay, Scheme(10, 2), [(value, 5)])
            self.assert_archive("log", 0, replay, Scheme(10, 2), [(value,)])

    def test_a_call_that_raises_because_of_a_limit(self):
        self.assert_archive("log", 1, replay, Scheme(10, 2), [("skip", 200), ("skip", 1)])
        self.assert_archive("log", 2, replay, Scheme(1000, 2), [("take", 1000), ("damage", 1000), ("plan",)])

    def test_1000_entries_and_1001(self):
        self.assertEqual(replay(Scheme(10, 2), [("take", 3)] * 1000).time_now(), 3000)
        self.assert_archive("log", 1000, replay, Scheme(10, 2), [("take", 3)] * 1001)
        self.assert_archive("log", 1000, replay, Scheme(10, 2), [("tidy",)] * 1500)
        self.assert_archive("log", 700, replay, Scheme(10, 2), [("tidy",)] * 700 + [None] + [("tidy",)] * 700)


class DrawnCalls(unittest.TestCase):

    def drawn_call(self, draw, plain):
        """The name of a call and its arguments, mostly ones that return."""
        name = draw.choice(("take", "take", "skip", "damage", "damage", "pin", "unpin", "plan", "plan", "tidy", "undo"))
        if name in ("plan", "tidy"):
            return name, []
        if name == "undo":
            return name, [draw.choice((0, 1, 1, 1, 1, 1, 2, 3, len(plain.log), len(plain.log) + 1, -1, None))]
        if draw.randrange(12) == 0:
            return name, [draw.choice((True, None, -1, 0, "1", (), 10 ** 25))]
        if name == "take":
            return name, [draw.choice((1, 1, 2, 3, 5, 8, 20))]
        if name == "skip":
            return name, [draw.choice((1, 1, 1, 2, 3, 70, 150))]
        if name == "unpin" and plain.lists["pinned"]:
            return name, [draw.choice(plain.lists["pinned"])]
        kept = [number for number in range(max(0, plain.now - 40), plain.now + 1) if plain.is_kept(number)]
        # 0 is damaged seldom, since then there is no repair any more.
        if name == "damage" and draw.randrange(20) > 0:
            kept = [number for number in kept if number > 0]
        return name, [draw.choice(kept + [draw.randrange(plain.now + 3)])]

    def test_compared_with_a_plain_walk(self):
        draw = random.Random("store")
        seen = {}
        for _ in range(70):
            base, factor = draw.choice((2, 2, 3, 4, 10)), draw.choice((1, 2, 3))
            store, plain = Store(Scheme(base, factor)), PlainStore(base, factor)
            for _ in range(45):
                name, arguments = self.drawn_call(draw, plain)
                if name == "undo":
                    expected = outcome(plain.undo, *arguments)
                else:
                    expected = outcome(plain.call, name, *arguments)
                self.assertEqual(outcome(getattr(store, name), *arguments), expected, (plain.log, name, arguments))
                self.assertEqual(everything(store), plain.told(), (plain.log, name, arguments))
                seen[(name, expected[0])] = seen.get((name, expected[0]), 0) + 1
            self.assertEqual(everything(replay(Scheme(base, factor), plain.log)), plain.told())
        for name in ("take", "skip", "damage", "pin", "unpin", "plan", "tidy", "undo"):
            self.assertGreater(seen[(name, "returned")], 30, seen)
        self.assertGreater(seen[("skip", "LimitExceeded")], 0, seen)

    def test_full_logs_are_replayed_soon(self):
        with soon():
            t = Store(Scheme(2, 3))
            t.take(1)
            draw = random.Random("long")
            while len(t.log()) < 1000:
                name = draw.choice(("take", "take", "damage", "pin", "plan", "tidy"))
                if name == "take":
                    t.take(draw.choice((1, 5, 10 ** 18, 10 ** 20)))
                elif name in ("damage", "pin"):
                    outcome(getattr(t, name), draw.choice(Scheme(2, 3).chain(t.time_now())[:-1]))
                else:
                    outcome(getattr(t, name))
            self.assertEqual(everything(replay(Scheme(2, 3), t.log())), everything(t))


if __name__ == "__main__":
    unittest.main()
