"""Which numbers a scheme keeps at a time, and what changes from one time to another."""

from snapdigits.errors import InvalidBound, InvalidTime, LimitExceeded
from snapdigits.levels import (
    count_in_rows, count_of_level, cut_rows, ends_of_level, kept_rows, number_at, numbers_of_level,
    numbers_of_rows, places_up_to,
)
from snapdigits.wholes import check_bound, check_number, check_time, is_integer_between, is_integer_from

MOST_NUMBERS = 1000


def count_kept(scheme, time):
    """How many numbers are kept at a time."""
    check_time(time)
    return count_in_rows(kept_rows(scheme, time))


def kept_levels(scheme, time):
    """A tuple (level, first, last, count) for each level that a kept number above 0 has."""
    check_time(time)
    base = scheme.base()
    found = []
    for level, place in enumerate(places_up_to(base, time)):
        oldest = max(1, time - scheme.factor() * place)
        first, last = ends_of_level(base, place, oldest, time)
        if first <= last:
            found.append((level, first, last, count_of_level(base, place, first, last)))
    return found


def rank(scheme, time, number):
    """How many kept numbers are below a number."""
    check_time(time)
    check_number(number)
    return count_in_rows(cut_rows(kept_rows(scheme, time), 0, number - 1))


def kept_number(scheme, time, index):
    """The kept number with an index, counted from 0 in ascending order."""
    check_time(time)
    rows = kept_rows(scheme, time)
    if not is_integer_between(index, 0, count_in_rows(rows) - 1):
        raise InvalidBound("index")
    return number_at(rows, index)


def previous_kept(scheme, time, number):
    """The greatest kept number up to a number."""
    check_time(time)
    check_number(number)
    # There is always a row left, as 0 is always kept.
    return cut_rows(kept_rows(scheme, time), 0, number)[-1][1]


def next_kept(scheme, time, number):
    """The least kept number from a number on; None if the number is above the time."""
    check_time(time)
    check_number(number)
    if number > time:
        return None
    # There is always a row left, as the time itself is kept.
    return cut_rows(kept_rows(scheme, time), number, time)[0][0]


def kept_between(scheme, time, low, high):
    """The ascending list of the kept numbers from low to high."""
    check_time(time)
    check_bound(low, 0, "low")
    check_bound(high, low, "high")
    rows = cut_rows(kept_rows(scheme, time), low, high)
    check_limit(count_in_rows(rows))
    return numbers_of_rows(rows)


def dropped(scheme, before, after):
    """The ascending list of the numbers that are kept at the time before and not at the time after."""
    check_limit(changes(scheme, before, after)[0])
    numbers = []
    for place in places_up_to(scheme.base(), before):
        life = scheme.factor() * place
        low = max(1, before - life)
        high = min(before, after - life - 1)
        numbers += numbers_of_level(scheme.base(), place, low, high)
    return sorted(numbers)


def changes(scheme, before, after):
    """(dropped, added): how many kept numbers are dropped between two times, and how many new ones are kept."""
    check_time(before)
    if not is_integer_from(after, before):
        raise InvalidTime(after)
    # What is kept at the later time and had been taken at the earlier one was kept then, too.
    stayed = rank(scheme, after, before + 1)
    return (count_kept(scheme, before) - stayed, count_kept(scheme, after) - stayed)


def next_drop(scheme, time):
    """(later, numbers): the first later time at which kept numbers are gone, and these; None at time 0."""
    check_time(time)
    if time == 0:
        return None
    # Of each level the oldest number goes first.
    oldest = [first for level, first, last, count in kept_levels(scheme, time)]
    end = min([scheme.last_time(number) for number in oldest])
    return (end + 1, sorted([number for number in oldest if scheme.last_time(number) == end]))


def check_limit(count):
    if count > MOST_NUMBERS:
        raise LimitExceeded(MOST_NUMBERS)
