"""How far back a restore goes for a state of a given age."""

from snapdigits.errors import InvalidNumber
from snapdigits.kept import next_kept, previous_kept
from snapdigits.levels import places_up_to
from snapdigits.wholes import check_bound, check_number, check_time, is_integer_between


def restore_point(scheme, time, age):
    """The greatest kept number up to the state of an age."""
    check_time(time)
    if not is_integer_between(age, 0, time):
        raise InvalidNumber(age)
    return previous_kept(scheme, time, time - age)


def loss(scheme, time, age):
    """How far the state of an age is behind its restore point."""
    point = restore_point(scheme, time, age)
    return time - age - point


def greatest_loss(scheme, age):
    """The greatest loss at an age over all times; None if the losses are not bounded."""
    check_number(age)
    if scheme.factor() == 1 and age > 1:
        return None
    place = 1
    while age > (scheme.factor() - 1) * place + 1:
        place *= scheme.base()
    return place - 1


def first_time_of_loss(scheme, age, least):
    """The least time at which the loss at an age is at least a bound; None if there is none."""
    check_number(age)
    check_bound(least, 0, "least")
    greatest = greatest_loss(scheme, age)
    if greatest is not None and least > greatest:
        return None
    return age + first_state_of_loss(scheme, age, least)


def first_state_of_loss(scheme, age, least):
    """The least state that has at least this loss at an age, if there is one."""
    # The newest multiple of a place is gone, or far enough back, exactly if the state modulo the
    # place is at least the bound below. So the state is the least number of at least this loss
    # whose remainders all reach their bounds; it is found from the highest digit down.
    state = 0
    rest = least
    for place in reversed(places_up_to(scheme.base(), least)):
        state += rest - rest % place
        bound = min(least, scheme.factor() * place - age + 1)
        rest = max(rest % place, bound)
    return state


def safe_age(scheme, most):
    """The greatest age whose greatest loss is at most a bound."""
    check_bound(most, 0, "most")
    place = places_up_to(scheme.base(), most + 1)[-1]
    return (scheme.factor() - 1) * place + 1


def widest_gap(scheme, time):
    """The neighbouring kept numbers with the greatest distance, the least of several; None at time 0."""
    check_time(time)
    if time == 0:
        return None
    # It is the first gap of all. Let the least kept number above 0 be kept as a multiple of a place.
    # Then it is at least the place, and all later multiples of the place are kept.
    return (0, next_kept(scheme, time, 1))
