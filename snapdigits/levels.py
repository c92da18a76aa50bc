"""Levels by their places, base ** level, and the kept numbers as a few rows of equal steps."""


def round_down(number, step):
    """The greatest multiple of a step that is not above a number."""
    return number - number % step


def round_up(number, step):
    """The least multiple of a step that is not below a number."""
    return number + -number % step


def places_up_to(base, most):
    """The ascending list of the powers of a base that are at most a number."""
    found = []
    place = 1
    while place <= most:
        found.append(place)
        place *= base
    return found


def ends_of_level(base, place, low, high):
    """(first, last) of the numbers of a level from low to high; first is above last if there are none."""
    above = place * base
    first = round_up(low, place)
    if first % above == 0:
        first += place
    last = round_down(high, place)
    if last % above == 0:
        last -= place
    return (first, last)


def count_of_level(base, place, first, last):
    """How many numbers of a level there are from its number first to its number last."""
    above = place * base
    return (last - first) // place + 1 - (last // above - first // above)


def numbers_of_level(base, place, low, high):
    """The ascending list of the numbers of a level from low to high."""
    above = place * base
    return [number for number in range(round_up(low, place), high + 1, place) if number % above != 0]


def kept_spans(scheme, time):
    """The numbers up to a time as ascending tuples (low, high, step).

    Of the numbers from low to high exactly the multiples of the step are kept at the time: what is too old
    for the level below a place, and not for its own, is kept if its level is at least that of the place, as all
    higher levels live longer. So there is at most one span for each place.
    """
    spans = []
    place = 1
    after = time + 1
    while after > 0:
        oldest = max(0, time - scheme.factor() * place)
        spans.append((oldest, after - 1, place))
        after = oldest
        place *= scheme.base()
    spans.reverse()
    return spans


def kept_rows(scheme, time):
    """The numbers that are kept at a time, as ascending tuples (first, last, step).

    Each stands for the numbers first, first + step and so on up to last, all multiples of the step.
    """
    rows = []
    for low, high, step in kept_spans(scheme, time):
        first = round_up(low, step)
        last = round_down(high, step)
        if first <= last:
            rows.append((first, last, step))
    return rows


def count_in_rows(rows):
    return sum([(last - first) // step + 1 for first, last, step in rows])


def cut_rows(rows, low, high):
    """The rows of the numbers from low to high."""
    cut = []
    for first, last, step in rows:
        least = max(first, round_up(low, step))
        greatest = min(last, round_down(high, step))
        if least <= greatest:
            cut.append((least, greatest, step))
    return cut


def numbers_of_rows(rows):
    numbers = []
    for first, last, step in rows:
        numbers += list(range(first, last + 1, step))
    return numbers


def number_at(rows, index):
    """The number with an index, counted from 0 in ascending order; None if there is none."""
    below = 0
    for first, last, step in rows:
        number = first + (index - below) * step
        if number <= last:
            return number
        below += (last - first) // step + 1
    return None


def rows_apart(rows, numbers):
    """The rows without the numbers of an ascending list, split so that none reaches over one of them."""
    apart = []
    at = 0
    for first, last, step in rows:
        start = first
        while at < len(numbers) and numbers[at] <= last:
            below = round_down(numbers[at] - 1, step)
            if start <= below:
                apart.append((start, below, step))
            start = max(start, round_up(numbers[at] + 1, step))
            at += 1
        if start <= last:
            apart.append((start, last, step))
    return apart


def greatest_in_rows(rows, most):
    """The greatest number of the rows that is at most a number; None if there is none."""
    # The rows ascend, and there may be many of them: the last one that begins early enough is found by halving.
    low = 0
    high = len(rows)
    while low < high:
        middle = (low + high) // 2
        if rows[middle][0] <= most:
            low = middle + 1
        else:
            high = middle
    if low == 0:
        return None
    last, step = rows[low - 1][1:]
    return min(last, round_down(most, step))


def numbers_in_spans(numbers, spans):
    """The numbers of an ascending list that are in one of the ascending spans (low, high)."""
    found = []
    at = 0
    for number in numbers:
        while at < len(spans) and spans[at][1] < number:
            at += 1
        if at < len(spans) and spans[at][0] <= number:
            found.append(number)
    return found
