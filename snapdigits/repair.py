"""Which later snapshots must be stored in full after damage."""

from snapdigits.archives import MOST_ITEMS, Archive, first_invalid
from snapdigits.damage import broken_ranges, harmed_ranges
from snapdigits.errors import InvalidArchive, InvalidNumber, InvalidTime, LimitExceeded
from snapdigits.wholes import check_number, check_time


def is_repair(archive, time, value):
    """Whether any object is a list of later numbers that end the damage if they are stored in full."""
    check_time_of_repair(archive, time)
    missing = missing_numbers_of(archive)
    if first_invalid(value, time + 1, missing) is not None:
        return False
    for first, after in harmed_ranges(archive.scheme(), archive.full() + value, archive.damaged()):
        if after is None or next_taken(missing, max(first, time + 1)) < after:
            return False
    return True


def repair(archive, time):
    """The smallest repair; None if no list of numbers is enough."""
    check_time_of_repair(archive, time)
    ranges = broken_ranges(archive)
    if ranges and ranges[-1][1] is None:
        return None
    missing = missing_numbers_of(archive)
    members = []
    number = time + 1
    for first, after in ranges:
        number = next_taken(missing, max(number, first))
        while number < after:
            if len(members) == MOST_ITEMS:
                raise LimitExceeded(MOST_ITEMS)
            members.append(number)
            # Nothing above the time is damaged, so the whole block of a full number is restorable.
            number = next_taken(missing, archive.scheme().block(number)[1])
    return members


def repair_size(scheme, damaged, time):
    """The size of the smallest repair after one damage; None if 0 is damaged."""
    check_number(damaged)
    check_time(time)
    if damaged > time:
        raise InvalidNumber(damaged)
    if damaged == 0:
        return None
    after = scheme.block(damaged)[1]
    later = max(0, after - 1 - time)
    return sum_of_digits(scheme.base(), later)


def repaired(archive, numbers):
    """The archive in which the numbers of an ascending list are stored in full, too."""
    at = first_invalid(numbers, 0, missing_numbers_of(archive))
    if at is not None:
        raise InvalidArchive("numbers", at)
    full = sorted(set(archive.full() + numbers))
    return Archive(archive.scheme(), missing=archive.missing(), full=full, pinned=archive.pinned(),
                   damaged=archive.damaged())


def next_restorable(archive, time):
    """The least taken number above a time that is not broken; None if there is none."""
    check_time_of_repair(archive, time)
    missing = missing_numbers_of(archive)
    number = next_taken(missing, time + 1)
    for first, after in broken_ranges(archive):
        if number < first:
            return number
        if after is None:
            return None
        number = next_taken(missing, max(number, after))
    return number


def check_time_of_repair(archive, time):
    check_time(time)
    damaged = archive.damaged()
    if damaged and damaged[-1] > time:
        raise InvalidTime(time)


def missing_numbers_of(archive):
    """A dict with the missing numbers as its keys."""
    return {number: True for number in archive.missing()}


def next_taken(missing, number):
    """The least number from a number on that is not missing."""
    while number in missing:
        number += 1
    return number


def sum_of_digits(base, number):
    total = 0
    while number > 0:
        total += number % base
        number //= base
    return total
