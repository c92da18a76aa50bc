"""Archives that tests of several files go through."""

import random

from snapdigits.archives import Archive
from snapdigits.schemes import Scheme


def small_archives():
    """Archives with all kinds of numbers, whose chains cross each other."""
    return [
        Archive(Scheme(10, 1)),
        Archive(Scheme(10, 2), missing=[20, 40], full=[45], pinned=[13, 47], damaged=[30, 60]),
        Archive(Scheme(2, 1), missing=[4, 6, 8, 12], full=[40, 41], pinned=[7, 15, 43, 63], damaged=[16, 44]),
        Archive(Scheme(2, 2), missing=[64, 96, 112], pinned=[113, 127], damaged=[64 + 8]),
        Archive(Scheme(3, 1), missing=[27, 36, 39], full=[54, 57], pinned=[40, 59], damaged=[54, 60]),
        Archive(Scheme(3, 2), full=[9, 30], pinned=[9, 30], damaged=[9, 30, 81]),
        Archive(Scheme(2, 1), full=[0], pinned=[0], damaged=[0]),
        Archive(Scheme(2, 3), full=[32], pinned=[0, 1, 2, 33], damaged=[0]),
        Archive(Scheme(5, 1), missing=list(range(25, 125, 5)), pinned=[26, 51, 99], damaged=[101]),
    ]


def drawn_archives(seed, count, span=60):
    """Archives with drawn lists of numbers below a span, the same ones for the same seed."""
    draw = random.Random(seed)
    return [drawn_archive(draw, span) for _ in range(count)]


def drawn_archive(draw, span):
    scheme = Scheme(draw.choice((2, 2, 3, 4, 10)), draw.choice((1, 1, 2, 3, 5)))
    missing = drawn_numbers(draw, range(1, span), (0, 1, 3, 10))
    taken = [number for number in range(span) if number not in missing]
    # 0 is damaged seldom, since then nothing else can be seen.
    harmed = taken if draw.randrange(8) == 0 else taken[1:]
    return Archive(scheme, missing=missing, full=drawn_numbers(draw, taken, (0, 1, 3, 8)),
                   pinned=drawn_numbers(draw, taken, (0, 0, 1, 3)), damaged=drawn_numbers(draw, harmed, (0, 1, 2, 4)))


def drawn_numbers(draw, numbers, counts):
    return sorted(draw.sample(list(numbers), draw.choice(counts)))


def parts_of(archive):
    """What a failed test shows of an archive."""
    scheme = archive.scheme()
    return (scheme.base(), scheme.factor(), archive.missing(), archive.full(), archive.pinned(), archive.damaged())


def crowded_archive(scheme, top, step=1):
    """An archive with four lists of 200 numbers from top on."""
    numbers = [top + step * k for k in range(800)]
    return Archive(scheme, missing=numbers[2::4], full=numbers[1::4], pinned=numbers[3::4], damaged=numbers[0::4])
