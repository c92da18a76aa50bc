"""What an archive can restore at a time, and how much is lost where it cannot."""

from snapdigits.archives import Archive, archive_rows
from snapdigits.damage import sound_spans
from snapdigits.errors import InvalidBound, InvalidNumber, LimitExceeded
from snapdigits.kept import MOST_NUMBERS, check_limit
from snapdigits.levels import count_in_rows, cut_rows, greatest_in_rows, number_at, numbers_of_rows
from snapdigits.wholes import check_bound, check_time, is_integer_between


def newest_kept(archive, time, state):
    """The greatest kept number up to a state."""
    check_state(time, state)
    return greatest_in_rows(archive_rows(archive, time, [(0, state)]), state)


def newest_restorable(archive, time, state):
    """The greatest restorable number up to a state; None if there is none."""
    check_state(time, state)
    return greatest_in_rows(restorable_rows(archive, time), state)


def loss(archive, time, state):
    """The distance from a state back to the greatest restorable number; None if there is none."""
    newest = newest_restorable(archive, time, state)
    if newest is None:
        return None
    return state - newest


def count_restorable(archive, time, low, high):
    """How many numbers from low to high are restorable."""
    check_states(time, low, high)
    return count_in_rows(cut_rows(restorable_rows(archive, time), low, high))


def restorable_between(archive, time, low, high):
    """The ascending list of the restorable numbers from low to high."""
    check_states(time, low, high)
    rows = cut_rows(restorable_rows(archive, time), low, high)
    check_limit(count_in_rows(rows))
    return numbers_of_rows(rows)


def greatest_loss(archive, time, low, high):
    """(loss, state): the greatest loss of the states from low to high, and the first state that has it."""
    numbers = restorable_between(archive, time, low, high)
    newest = newest_restorable(archive, time, low)
    if newest is None:
        return (None, low)
    greatest = (low - newest, low)
    # The loss grows up to the state before the next restorable number.
    for number in numbers + [high + 1]:
        if number - 1 - newest > greatest[0]:
            greatest = (number - 1 - newest, number - 1)
        newest = number
    return greatest


def newest_state_over(archive, time, limit):
    """The greatest state whose loss is above a limit or None; None if there is no such state."""
    check_time(time)
    check_bound(limit, 0, "limit")
    numbers = newest_numbers(restorable_rows(archive, time))
    state = time
    for number in reversed(numbers):
        if state - number > limit:
            return state
        state = number - 1
    if state < 0:
        return None
    if len(numbers) == MOST_NUMBERS:
        raise LimitExceeded(MOST_NUMBERS)
    # Nothing is restorable up to this state, so it has no loss.
    return state


def missing_that_matter(archive, time):
    """The list of tuples (number, loss) of the missing numbers that would be restorable, if taken."""
    check_time(time)
    rows = restorable_rows(archive, time)
    found = []
    for number in archive.missing():
        if with_taken(archive, number).is_restorable(number, time):
            found.append((number, number - greatest_in_rows(rows, number)))
    return found


def check_state(time, state):
    check_time(time)
    if not is_integer_between(state, 0, time):
        raise InvalidNumber(state)


def check_states(time, low, high):
    check_time(time)
    if not is_integer_between(low, 0, time):
        raise InvalidBound("low")
    if not is_integer_between(high, low, time):
        raise InvalidBound("high")


def restorable_rows(archive, time):
    """The restorable numbers at a time, as ascending rows."""
    return archive_rows(archive, time, sound_spans(archive, time))


def newest_numbers(rows):
    """The ascending list of the greatest numbers of the rows, as many as a list may have."""
    older = count_in_rows(rows) - MOST_NUMBERS
    if older > 0:
        rows = cut_rows(rows, number_at(rows, older), rows[-1][1])
    return numbers_of_rows(rows)


def with_taken(archive, number):
    """The archive without one of its missing numbers."""
    missing = [other for other in archive.missing() if other != number]
    return Archive(archive.scheme(), missing=missing, full=archive.full(), pinned=archive.pinned(),
                   damaged=archive.damaged())
