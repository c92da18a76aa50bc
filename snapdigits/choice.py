"""The choice of a scheme for an age and a loss."""

from snapdigits.errors import InvalidBound
from snapdigits.kept import count_kept
from snapdigits.levels import places_up_to
from snapdigits.schemes import GREATEST_BASE, GREATEST_FACTOR, LEAST_BASE, Scheme
from snapdigits.wholes import check_bound, check_time, is_integer_between

MOST_BASES = 50


def least_factor(base, age, loss):
    """The least factor with which states up to an age are restored with at most a loss; None if it is too great."""
    if not is_base(base):
        raise InvalidBound("base")
    check_bound(age, 0, "age")
    check_bound(loss, 0, "loss")
    if age <= 1:
        return 1
    place = places_up_to(base, loss + 1)[-1]
    # The least integer with age - 1 <= (factor - 1) * place.
    factor = 1 - (1 - age) // place
    return factor if factor <= GREATEST_FACTOR else None


def is_enough(scheme, age, loss):
    """Whether the factor of a scheme is at least the least one."""
    least = least_factor(scheme.base(), age, loss)
    return least is not None and scheme.factor() >= least


def schemes_for(bases, age, loss):
    """The list of the schemes with the least factors for the bases, without those that need too great a factor."""
    if not is_list_of_bases(bases):
        raise InvalidBound("bases")
    schemes = []
    for base in bases:
        factor = least_factor(base, age, loss)
        if factor is not None:
            schemes.append(Scheme(base, factor))
    return schemes


def fewest_kept(bases, age, loss, time):
    """(count, base, factor) of the scheme that keeps the fewest numbers at a time; None if there is no scheme."""
    schemes = schemes_for(bases, age, loss)
    check_time(time)
    return min([(count_kept(scheme, time), scheme.base(), scheme.factor()) for scheme in schemes], default=None)


def is_base(value):
    return is_integer_between(value, LEAST_BASE, GREATEST_BASE)


def is_list_of_bases(value):
    """Whether any object is an ascending list of 1 to 50 bases."""
    if not isinstance(value, list) or not 1 <= len(value) <= MOST_BASES:
        return False
    least = LEAST_BASE
    for base in value:
        if not is_integer_between(base, least, GREATEST_BASE):
            return False
        least = base + 1
    return True
