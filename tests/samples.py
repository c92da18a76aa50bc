"""Objects that tests of several files pass in."""


class Stubborn:
    """An unhashable object that refuses every comparison and truth test."""

    __hash__ = None

    def __eq__(self, other):
        raise AssertionError("compared")

    __ne__ = __lt__ = __le__ = __gt__ = __ge__ = __eq__

    def __bool__(self):
        raise AssertionError("tested")

    def __repr__(self):
        return "Stubborn()"


class EqualToAll:
    """An object that calls itself equal to everything."""

    __hash__ = None

    def __eq__(self, other):
        return True


class OwnInt(int):
    """An int of a subclass is an int, too."""


def deep_list(levels):
    nest = []
    for _ in range(levels):
        nest = [nest]
    return nest


def no_integers():
    """Objects of many kinds that are not integers; floats never occur."""
    return [
        True, False, None, "", "5", "abc", b"", b"5", bytearray(b"5"),
        [], [5], (), (5,), {}, {5: 5}, set(), {5}, frozenset([5]), range(5),
        object(), Stubborn(), EqualToAll(), int, len, lambda: 5, ...,
        NotImplemented, ArithmeticError("5"), deep_list(2000),
    ]


def no_numbers():
    """Objects that are neither numbers nor times."""
    return no_integers() + [-1, -2, -10, -10 ** 29, OwnInt(-1)]
