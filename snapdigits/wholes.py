"""What counts as an integer, a number and a time."""

from snapdigits.errors import InvalidBound, InvalidNumber, InvalidTime


def is_integer(value):
    """Whether any object is an integer; True and False are none."""
    return isinstance(value, int) and not isinstance(value, bool)


def is_integer_from(value, least):
    return is_integer(value) and value >= least


def is_integer_between(value, least, greatest):
    return is_integer(value) and least <= value <= greatest


def check_number(number):
    if not is_integer_from(number, 0):
        raise InvalidNumber(number)


def check_time(time):
    if not is_integer_from(time, 0):
        raise InvalidTime(time)


def check_bound(bound, least, part):
    if not is_integer_from(bound, least):
        raise InvalidBound(part)
