"""Schemes: from which chain a snapshot is restored, and how long it is kept."""

from snapdigits.errors import InvalidScheme
from snapdigits.wholes import check_number, check_time, is_integer_between

LEAST_BASE = 2
GREATEST_BASE = 1000
LEAST_FACTOR = 1
GREATEST_FACTOR = 10 ** 6


def lowest_place(base, number):
    """base ** level of a number above 0: what its lowest nonzero digit counts."""
    place = 1
    while number % (place * base) == 0:
        place *= base
    return place


class Scheme:
    """A base, whose digits give the chains, and a factor of the lifetimes."""

    def __init__(self, base, factor):
        if not is_integer_between(base, LEAST_BASE, GREATEST_BASE):
            raise InvalidScheme("base")
        if not is_integer_between(factor, LEAST_FACTOR, GREATEST_FACTOR):
            raise InvalidScheme("factor")
        self.base_value = base
        self.factor_value = factor

    def __eq__(self, other):
        return (isinstance(other, Scheme) and self.base_value == other.base_value
                and self.factor_value == other.factor_value)

    def base(self):
        return self.base_value

    def factor(self):
        return self.factor_value

    def level(self, number):
        """How many trailing zeros a number has; None for 0."""
        check_number(number)
        if number == 0:
            return None
        zeros = 0
        while number % self.base_value == 0:
            number //= self.base_value
            zeros += 1
        return zeros

    def parent(self, number):
        """The number with its lowest nonzero digit replaced by 0; None for 0."""
        check_number(number)
        if number == 0:
            return None
        place = lowest_place(self.base_value, number)
        return number - number % (place * self.base_value)

    def chain(self, number):
        """The list of the number, its parent and so on, down to 0."""
        check_number(number)
        members = [number]
        place = 1
        while members[-1] > 0:
            place *= self.base_value
            cleared = number - number % place
            # A digit that is 0 already gives no further member.
            if cleared < members[-1]:
                members.append(cleared)
        return members

    def block(self, number):
        """(first, after) of the numbers whose chain contains the number."""
        check_number(number)
        if number == 0:
            return (0, None)
        return (number, number + lowest_place(self.base_value, number))

    def has_in_chain(self, number, ancestor):
        """Whether the chain of a number contains another one, or the same."""
        check_number(number)
        first, after = self.block(ancestor)
        return first <= number and (after is None or number < after)

    def last_time(self, number):
        """The last time at which the number lives; None for 0, which has none."""
        check_number(number)
        if number == 0:
            return None
        return number + self.factor_value * lowest_place(self.base_value, number)

    def is_kept(self, number, time):
        """Whether the number has been taken at the time and lives then."""
        check_number(number)
        check_time(time)
        last = self.last_time(number)
        return number <= time and (last is None or time <= last)
