"""What damaged numbers make unrestorable, and for how long."""

from snapdigits.archives import archive_rows
from snapdigits.levels import count_in_rows
from snapdigits.wholes import check_time


def broken_ranges(archive):
    """The ascending list of tuples (first, after) of the broken numbers; after is None for a range without end."""
    return harmed_ranges(archive.scheme(), archive.full(), archive.damaged())


def harmed_ranges(scheme, full, damaged):
    """The ranges of the numbers whose nearest marked number in the chain is damaged."""
    marks = {number: False for number in full}
    for number in damaged:
        marks[number] = True
    # What a number's nearest mark is changes only where the block of a mark begins or ends.
    edges = {}
    for number in marks:
        first, after = scheme.block(number)
        edges[first] = True
        if after is not None:
            edges[after] = True
    ranges = []
    begin = None
    for edge in sorted(edges):
        harmed = is_harmed(scheme, marks, edge)
        if harmed and begin is None:
            begin = edge
        elif not harmed and begin is not None:
            ranges.append((begin, edge))
            begin = None
    if begin is not None:
        ranges.append((begin, None))
    return ranges


def is_harmed(scheme, marks, number):
    """Whether the nearest mark in a number's chain is that of a damaged one."""
    for member in scheme.chain(number):
        if member in marks:
            return marks[member]
    return False


def broken_spans(archive, time):
    """The broken ranges up to a time, as tuples (low, high)."""
    spans = []
    for first, after in broken_ranges(archive):
        if first <= time:
            high = time if after is None else min(after - 1, time)
            spans.append((first, high))
    return spans


def sound_spans(archive, time):
    """What is between the broken ranges up to a time, as tuples (low, high)."""
    spans = []
    low = 0
    for first, high in broken_spans(archive, time):
        if low < first:
            spans.append((low, first - 1))
        low = high + 1
    if low <= time:
        spans.append((low, time))
    return spans


def count_broken(archive, time):
    """How many numbers are kept at a time and broken."""
    check_time(time)
    return count_in_rows(archive_rows(archive, time, broken_spans(archive, time)))


def forgotten_from(archive):
    """The least time from which on no broken number is kept; None if there is none."""
    damaged = archive.damaged()
    if not damaged:
        return 0
    # 0 and pinned numbers are kept without end.
    if damaged[0] == 0 or any([archive.is_broken(number) for number in archive.pinned()]):
        return None
    # A damaged number outlives all others of its block, so missing and full ones there change nothing.
    return max([archive.scheme().last_time(number) for number in damaged]) + 1
