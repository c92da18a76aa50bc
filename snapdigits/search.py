"""The search for the first bad state, by tests of restorable numbers."""

from snapdigits.errors import InvalidBound
from snapdigits.gaps import restorable_rows
from snapdigits.kept import check_limit
from snapdigits.levels import count_in_rows, cut_rows, number_at, numbers_of_rows
from snapdigits.wholes import check_time, is_integer, is_integer_between


def count_candidates(archive, time, good, bad):
    """How many restorable numbers are strictly between a good state and a bad one."""
    return count_in_rows(candidate_rows(archive, time, good, bad))


def candidate(archive, time, good, bad, index):
    """The candidate with an index, counted from 0 in ascending order."""
    rows = candidate_rows(archive, time, good, bad)
    if not is_integer_between(index, 0, count_in_rows(rows) - 1):
        raise InvalidBound("index")
    return number_at(rows, index)


def tests_needed(archive, time, good, bad):
    """The least number of tests that is enough whatever the first bad state is."""
    # The least t such that 2 ** t is above a count is the number of its binary digits.
    return count_candidates(archive, time, good, bad).bit_length()


def next_test(archive, time, good, bad):
    """The candidate in the middle; None if there is none."""
    rows = candidate_rows(archive, time, good, bad)
    return number_at(rows, count_in_rows(rows) // 2)


def run_search(archive, time, good, bad, first_bad):
    """(tests, good, bad): what is tested in order if the first bad state is given, and the states in the end."""
    rows = candidate_rows(archive, time, good, bad)
    if not is_integer_between(first_bad, good + 1, bad):
        raise InvalidBound("first_bad")
    tests = []
    low = 0
    high = count_in_rows(rows)
    while low < high:
        middle = middle_of(low, high)
        tested = number_at(rows, middle)
        tests.append(tested)
        if tested < first_bad:
            good = tested
            low = middle + 1
        else:
            bad = tested
            high = middle
    return (tests, good, bad)


def best_plan(archive, time, good, bad):
    """The plan that tests the candidate in the middle at each step."""
    numbers = candidates(archive, time, good, bad)
    return plan_between(numbers, 0, len(numbers))


def judge_plan(archive, time, good, bad, plan):
    """The greatest number of tests of a plan; None if the value is no plan."""
    numbers = candidates(archive, time, good, bad)
    places = {number: at for at, number in enumerate(numbers)}
    greatest = 0
    # A plan may be as deep as there are candidates, so its parts wait in a list.
    waiting = [(plan, 0, len(numbers), 0)]
    while waiting:
        part, low, high, tests = waiting.pop()
        if low == high:
            if part is not None:
                return None
            greatest = max(greatest, tests)
        else:
            at = place_of_test(places, part)
            if at is None or not low <= at < high:
                return None
            waiting.append((part[1], at + 1, high, tests + 1))
            waiting.append((part[2], low, at, tests + 1))
    return greatest


def candidate_rows(archive, time, good, bad):
    """The candidates as ascending rows."""
    check_time(time)
    if not is_integer_between(good, 0, time):
        raise InvalidBound("good")
    if not is_integer_between(bad, good + 1, time):
        raise InvalidBound("bad")
    return cut_rows(restorable_rows(archive, time), good + 1, bad - 1)


def candidates(archive, time, good, bad):
    """The ascending list of the candidates."""
    rows = candidate_rows(archive, time, good, bad)
    check_limit(count_in_rows(rows))
    return numbers_of_rows(rows)


def middle_of(low, high):
    return low + (high - low) // 2


def plan_between(numbers, low, high):
    """The best plan for the numbers with the indexes from low to the one before high."""
    if low == high:
        return None
    middle = middle_of(low, high)
    return (numbers[middle], plan_between(numbers, middle + 1, high), plan_between(numbers, low, middle))


def place_of_test(places, part):
    """The index of the candidate that a part of a plan tests; None if it tests none."""
    if not isinstance(part, tuple) or len(part) != 3 or not is_integer(part[0]):
        return None
    return places.get(part[0])
