"""A second way to the answers about times and archives: going through the numbers one by one."""

import signal
from contextlib import contextmanager

from snapdigits.schemes import Scheme

from digits import walked_chain

SMALL = ((2, 1), (2, 2), (2, 3), (3, 1), (3, 2), (4, 5), (10, 1), (10, 2), (2, 60), (5, 33), (1000, 7))
LONG_TIMES = (
    10 ** 29, 10 ** 29 - 1, 10 ** 29 + 1, 10 ** 30 - 1, 2 ** 99, 2 ** 99 - 1, 2 ** 99 + 1, 2 ** 98 + 2 ** 97,
    3 ** 62, 3 ** 62 + 1, 1000 ** 9, 1000 ** 9 - 1, 999 * 1000 ** 9 + 5, 123456789012345678901234567890,
    700000000000000000000000000012,
)
LONG = ((2, 1), (2, 2), (2, 10 ** 6), (3, 1), (3, 5), (10, 1), (10, 2), (10, 999), (1000, 1), (1000, 10 ** 6))


def schemes(pairs):
    return [Scheme(base, factor) for base, factor in pairs]


def named(scheme):
    """What a failed test shows of a scheme."""
    return (scheme.base(), scheme.factor())


def walked_kept(scheme, time):
    """The kept numbers at a time, number by number."""
    return [number for number in range(time + 1) if scheme.is_kept(number, time)]


def walked_archive_chain(archive, number):
    """The chain of a taken number: the scheme's chain up to a full number, without what is missing."""
    members = []
    for member in walked_chain(archive.scheme().base(), number):
        if member not in archive.missing():
            members.append(member)
        if member in archive.full():
            return members
    return members


def walked_archive_kept(archive, number, time):
    if number in archive.missing():
        return False
    if archive.scheme().is_kept(number, time):
        return True
    return any(number in walked_archive_chain(archive, pin) for pin in archive.pinned() if pin <= time)


@contextmanager
def soon(seconds=60):
    """Fails instead of going on for ever, as a way that lists all numbers would."""
    def stop(*_):
        raise AssertionError(f"not done after {seconds} seconds")

    former = signal.signal(signal.SIGALRM, stop)
    signal.alarm(seconds)
    try:
        yield
    finally:
        signal.alarm(0)
        signal.signal(signal.SIGALRM, former)
