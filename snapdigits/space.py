"""How much space the snapshots take."""

from snapdigits.errors import InvalidNumber
from snapdigits.levels import places_up_to, round_down
from snapdigits.wholes import check_bound, check_number, check_time, is_integer_from


def size(scheme, number, full):
    """The distance of a number to its parent, but at most the size of a full snapshot."""
    check_number(number)
    check_bound(full, 1, "full")
    if number == 0:
        return full
    return min(full, number - scheme.parent(number))


def restore_size(scheme, number, full):
    """The sum of the sizes of the chain of a number."""
    return sum([size(scheme, member, full) for member in scheme.chain(number)])


def space(scheme, time, full):
    """The sum of the sizes of all numbers that are kept at a time."""
    check_time(time)
    check_bound(full, 1, "full")
    total = full
    for place in places_up_to(scheme.base(), time):
        oldest = max(1, time - scheme.factor() * place)
        total += size_of_level(scheme.base(), place, oldest, time, full)
    return total


def size_of_range(scheme, first, after, full):
    """The sum of the sizes of the numbers from first to the one before after, kept or not."""
    check_number(first)
    if not is_integer_from(after, first):
        raise InvalidNumber(after)
    check_bound(full, 1, "full")
    total = full if first == 0 and after > 0 else 0
    for place in places_up_to(scheme.base(), after - 1):
        total += size_of_level(scheme.base(), place, max(1, first), after - 1, full)
    return total


def greatest_distance(scheme, time):
    """(distance, number): the greatest distance of a kept number to its parent, and the least such number."""
    check_time(time)
    if time == 0:
        return None
    # The time with all digits but the highest replaced by 0 is kept, and its parent is 0. The other numbers up
    # to the time have a lower digit at the highest place, or are nearer to their parents than this place.
    number = round_down(time, places_up_to(scheme.base(), time)[-1])
    return (number, number)


def greatest_full(scheme, time, most):
    """The greatest size of a full snapshot with which the space is at most a bound; None if there is none."""
    check_time(time)
    check_bound(most, 0, "most")
    # The space grows with the size of 0, and it is never less than that.
    low = 0
    high = most
    while low < high:
        middle = (low + high + 1) // 2
        if space(scheme, time, middle) <= most:
            low = middle
        else:
            high = middle - 1
    return low if low > 0 else None


def size_of_level(base, place, low, high, full):
    """The sum of the sizes of the numbers of a level from low, at least 1, to high."""
    return size_up_to(base, place, high // place, full) - size_up_to(base, place, (low - 1) // place, full)


def size_up_to(base, place, last, full):
    """The sum of the sizes of the numbers of a level up to a multiple of its place."""
    rounds, rest = divmod(last + 1, base)
    return rounds * size_of_digits(place, base - 1, full) + size_of_digits(place, rest - 1, full)


def size_of_digits(place, last, full):
    """The sum of the sizes for the digits of a place up to the digit last, or 0 if it is -1."""
    # Up to the bend a digit counts as its distance, and from then on as a full snapshot.
    bend = min(last, full // place)
    return place * (bend * (bend + 1) // 2) + full * (last - bend)
