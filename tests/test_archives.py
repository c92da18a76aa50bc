"""Points 2, 4 and 21: how archives are made, checked, compared and asked for their parts."""

import inspect
import unittest
from unittest import mock

from snapdigits.archives import Archive
from snapdigits.errors import InvalidArchive
from snapdigits.schemes import Scheme

from raising import RaisingCase
from samples import EqualToAll, OwnInt, Stubborn, deep_list, no_integers, no_numbers

LISTS = ("missing", "full", "pinned", "damaged")
OTHERS = ("full", "pinned", "damaged")
PARAMETERS = {
    "scheme": [], "missing": [], "full": [], "pinned": [], "damaged": [], "parent": ["number"],
    "chain": ["number"], "is_kept": ["number", "time"], "pinned_members": ["time"],
    "is_broken": ["number"], "is_restorable": ["number", "time"],
}
S = Scheme(10, 2)
THIRTY = 10 ** 30 - 1


def parts(archive):
    return [getattr(archive, name)() for name in LISTS]


def no_lists():
    """Objects that are not lists, and not None either."""
    return [value for value in no_integers() if value is not None and not isinstance(value, list)] + [0, 5, -1]


class Interface(RaisingCase):

    def test_methods_and_parameters_stand_in_the_class(self):
        for name, parameters in PARAMETERS.items():
            self.assert_parameters(vars(Archive)[name], ["self", *parameters])
        self.assertIn("__eq__", vars(Archive))

    def test_the_lists_are_passed_by_name(self):
        self.assert_parameters(Archive, ["scheme", *LISTS])
        for name in LISTS:
            parameter = inspect.signature(Archive).parameters[name]
            self.assertEqual((parameter.kind, parameter.default), (inspect.Parameter.KEYWORD_ONLY, None))
        self.assertRaises(TypeError, Archive, S, [1])
        self.assertRaises(TypeError, Archive)

    def test_arguments_by_name(self):
        a = Archive(damaged=[4700], pinned=[4705], full=[4000], missing=[3], scheme=S)
        self.assertEqual(parts(a), [[3], [4000], [4705], [4700]])
        self.assertEqual((a.parent(number=4705), a.chain(number=4700)), (4700, [4700, 4000]))
        self.assertIs(a.is_kept(time=5000, number=4705), True)
        self.assertEqual(a.pinned_members(time=5000), [4700, 4705])
        self.assertIs(a.is_broken(number=4705), True)
        self.assertIs(a.is_restorable(time=4000, number=4000), True)


class Parts(unittest.TestCase):

    def test_the_parts(self):
        a = Archive(S, missing=[1, 5], full=[0, 2], pinned=[0, 2, 7], damaged=[0, 2, THIRTY])
        self.assertTrue(a.scheme() == S)
        self.assertEqual(parts(a), [[1, 5], [0, 2], [0, 2, 7], [0, 2, THIRTY]])

    def test_none_is_an_empty_list(self):
        for a in (Archive(S), Archive(S, missing=None, full=None, pinned=None, damaged=None),
                  Archive(S, missing=[], full=[], pinned=[], damaged=[])):
            self.assertEqual(parts(a), [[], [], [], []])
            self.assertTrue(a == Archive(S))

    def test_200_items(self):
        for name in LISTS:
            numbers = list(range(1, 201))
            a = Archive(S, **{name: numbers})
            self.assertEqual(getattr(a, name)(), numbers)

    def test_800_items_in_all(self):
        a = Archive(S, missing=list(range(1, 400, 2)), full=list(range(0, 400, 2)),
                    pinned=list(range(0, 400, 2)), damaged=list(range(0, 400, 2)))
        self.assertEqual([len(part) for part in parts(a)], [200] * 4)

    def test_lists_that_are_changed_after_they_were_passed_in(self):
        for name in LISTS:
            numbers = [2, 4]
            a = Archive(S, **{name: numbers})
            numbers.append(6)
            numbers[0] = 3
            self.assertEqual(getattr(a, name)(), [2, 4])
            self.assertTrue(a == Archive(S, **{name: [2, 4]}))

    def test_lists_that_are_changed_after_they_were_returned(self):
        for name in LISTS:
            a = Archive(S, **{name: [2, 4]})
            first = getattr(a, name)()
            second = getattr(a, name)()
            first.clear()
            self.assertEqual(second, [2, 4])
            self.assertEqual(getattr(a, name)(), [2, 4])
            self.assertIsInstance(second, list)

    def test_lists_that_are_passed_in_stay_as_they_are(self):
        numbers = [2, 4]
        a = Archive(S, full=numbers, pinned=numbers, damaged=numbers)
        a.full().append(9)
        a.pinned_members(4)
        a.chain(4)
        self.assertEqual(numbers, [2, 4])

    def test_an_int_of_a_subclass(self):
        a = Archive(S, missing=[OwnInt(3)], full=[OwnInt(4)])
        self.assertTrue(a == Archive(S, missing=[3], full=[4]))


class Invalid(RaisingCase):

    def assert_invalid(self, part, at, *arguments, **named):
        self.assert_archive(part, at, Archive, *arguments, **named)

    def test_a_scheme_that_is_none(self):
        for value in no_numbers() + [10, (10, 2), Archive(S), Scheme]:
            with self.subTest(kind=value.__class__):
                self.assert_invalid("scheme", -1, value)
                self.assert_invalid("scheme", -1, value, missing=[0], full=5)

    def test_values_that_are_no_lists(self):
        for value in no_lists():
            for name in LISTS:
                with self.subTest(name, kind=value.__class__):
                    self.assert_invalid(name, -1, S, **{name: value})

    def test_201_items(self):
        for name in LISTS:
            self.assert_invalid(name, -1, S, **{name: list(range(1, 202))})
            self.assert_invalid(name, -1, S, **{name: ["x"] * 201})
            self.assert_invalid(name, -1, S, **{name: [-1] + list(range(1, 1001))})
            self.assert_invalid(name, 199, S, **{name: list(range(1, 200)) + [199]})

    def test_items_that_are_no_numbers(self):
        for value in no_numbers():
            for name in LISTS:
                with self.subTest(name, kind=value.__class__):
                    self.assert_invalid(name, 0, S, **{name: [value]})
                    self.assert_invalid(name, 1, S, **{name: [3, value, 4, value]})
                    self.assert_invalid(name, 2, S, **{name: [3, THIRTY, value]})

    def test_not_ascending(self):
        for name in LISTS:
            self.assert_invalid(name, 1, S, **{name: [5, 4]})
            self.assert_invalid(name, 1, S, **{name: [5, 5]})
            self.assert_invalid(name, 2, S, **{name: [5, 7, 6, 6]})
            self.assert_invalid(name, 3, S, **{name: [5, 7, THIRTY, 6]})
            self.assert_invalid(name, 2, S, **{name: [1, 2, 0]})

    def test_0_cannot_be_missing(self):
        self.assert_invalid("missing", 0, S, missing=[0])
        self.assert_invalid("missing", 0, S, missing=[0, 1, 2])
        for name in OTHERS:
            self.assertEqual(getattr(Archive(S, **{name: [0]}), name)(), [0])

    def test_a_missing_number_in_another_list(self):
        for name in OTHERS:
            self.assert_invalid(name, 0, S, missing=[5], **{name: [5]})
            self.assert_invalid(name, 1, S, missing=[5, THIRTY], **{name: [4, 5, THIRTY]})
            self.assert_invalid(name, 2, S, missing=[5, THIRTY], **{name: [4, 6, THIRTY]})

    def test_the_first_invalid_part(self):
        wrong = {"missing": [7, 7], "full": [1, 0], "pinned": "x", "damaged": [None]}
        places = {"missing": 1, "full": 1, "pinned": -1, "damaged": 0}
        for first in range(4):
            named = {name: wrong[name] for name in reversed(LISTS[first:])}
            self.assert_invalid(LISTS[first], places[LISTS[first]], S, **named)
        self.assert_invalid("scheme", -1, None, **wrong)
        self.assert_invalid("full", 0, S, missing=[5], full=[5], pinned=[5], damaged=[5])
        self.assert_invalid("pinned", 0, S, missing=[5], full=[4], pinned=[5], damaged=[5])

    def test_the_first_invalid_item(self):
        self.assert_invalid("full", 1, S, missing=[5], full=[4, 3, 5])
        self.assert_invalid("full", 1, S, missing=[5], full=[4, 5, 3])
        self.assert_invalid("damaged", 0, S, missing=[5], damaged=[True, 5])

    def test_an_error_changes_nothing(self):
        a = Archive(S, missing=[1], full=[2], pinned=[3], damaged=[4])
        for named in ({"missing": [0]}, {"damaged": 5}, {"missing": [9], "pinned": [9]}):
            self.assertRaises(InvalidArchive, a.__init__, Scheme(2, 1), **named)
            self.assertTrue(a.scheme() == S)
            self.assertEqual(parts(a), [[1], [2], [3], [4]])

    def test_arguments_stay_as_they_are(self):
        value = [3, [4]]
        self.assert_invalid("full", 1, S, full=value)
        self.assertEqual(value, [3, [4]])


class Equality(unittest.TestCase):

    def assert_different(self, one, other):
        self.assertIs(one == other, False)
        self.assertIs(one != other, True)

    def test_equal_by_all_parts(self):
        def made():
            return Archive(Scheme(10, 2), missing=[1], full=[2, 3], pinned=[3], damaged=[4, THIRTY])

        self.assertIs(made() == made(), True)
        self.assertIs(made() != made(), False)
        self.assertIs(Archive(Scheme(3, 1)) == Archive(Scheme(3, 1), full=[]), True)

    def test_one_part_differs(self):
        own = {"missing": [1, 9], "full": [2, 8], "pinned": [3, 7], "damaged": [4, 6]}
        a = Archive(S, **own)
        self.assert_different(a, Archive(Scheme(10, 3), **own))
        self.assert_different(a, Archive(Scheme(9, 2), **own))
        for name in LISTS:
            for numbers in (None, [], own[name][:1], own[name][1:], own[name] + [THIRTY]):
                self.assert_different(a, Archive(S, **{**own, name: numbers}))

    def test_the_same_numbers_in_another_list(self):
        made = [Archive(S, **{name: [5]}) for name in LISTS]
        for one in made:
            self.assertEqual([one == other for other in made].count(True), 1)

    def test_equal_to_nothing_else(self):
        class Lookalike:
            def __init__(self):
                vars(self).update(vars(Archive(S)))

        others = no_integers() + [
            S, 0, 10, (S, [], [], [], []), [S], Archive, Lookalike(), mock.ANY, EqualToAll(), Stubborn(),
        ]
        for other in others:
            with self.subTest(kind=other.__class__):
                self.assert_different(Archive(S), other)
        self.assert_different(S, Archive(S))


class WrongNumbersAndTimes(RaisingCase):

    def setUp(self):
        self.archive = Archive(S, missing=[4700], full=[4000], pinned=[4705], damaged=[5])

    def test_methods_of_one_number(self):
        for value in no_numbers() + [deep_list(3)]:
            for name in ("parent", "chain", "is_broken"):
                with self.subTest(name, kind=value.__class__):
                    self.assert_number(value, getattr(self.archive, name), value)

    def test_missing_numbers(self):
        missing = [5, 4700, THIRTY]
        a = Archive(S, missing=missing)
        for number in missing:
            for name in ("parent", "chain", "is_broken"):
                self.assert_number(number, getattr(a, name), number)

    def test_numbers_come_before_times(self):
        for value in no_numbers():
            for name in ("is_kept", "is_restorable"):
                call = getattr(self.archive, name)
                with self.subTest(name, kind=value.__class__):
                    for other in (0, 4800, -1, None, [value]):
                        self.assert_number(value, call, value, other)
                    # A missing number is a number here, so that the time is checked, too.
                    for number in (0, 5, 4700, 4705, THIRTY):
                        self.assert_time(value, call, number, value)

    def test_pinned_members(self):
        for value in no_numbers():
            with self.subTest(kind=value.__class__):
                self.assert_time(value, self.archive.pinned_members, value)
                self.assert_time(value, Archive(S).pinned_members, value)

    def test_an_error_changes_nothing(self):
        before = parts(self.archive)
        self.assert_number(4700, self.archive.chain, 4700)
        self.assert_time(-1, self.archive.pinned_members, -1)
        self.assertEqual(parts(self.archive), before)


if __name__ == "__main__":
    unittest.main()
