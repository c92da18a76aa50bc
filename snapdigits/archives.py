"""Archives: a scheme with numbers that are missing, stored in full, pinned or damaged."""

from snapdigits.errors import InvalidArchive, InvalidNumber
from snapdigits.levels import cut_rows, kept_rows, numbers_in_spans, rows_apart
from snapdigits.schemes import Scheme
from snapdigits.wholes import check_number, check_time, is_integer_from

MOST_ITEMS = 200


def first_invalid(value, least, barred):
    """The index of the first item that is no ascending number from the least on, or is barred.

    It is -1 for a value that is not a list of at most 200 items, and None for a valid list.
    """
    if not isinstance(value, list) or len(value) > MOST_ITEMS:
        return -1
    for at, number in enumerate(value):
        if not is_integer_from(number, least) or number in barred:
            return at
        least = number + 1
    return None


def checked_numbers(part, value, least, barred):
    """A dict with the numbers of an archive's list as its keys, in their order."""
    if value is None:
        return {}
    at = first_invalid(value, least, barred)
    if at is not None:
        raise InvalidArchive(part, at)
    return {number: True for number in value}


class Archive:
    """A scheme, and how the snapshots that were taken differ from it."""

    def __init__(self, scheme, *, missing=None, full=None, pinned=None, damaged=None):
        if not isinstance(scheme, Scheme):
            raise InvalidArchive("scheme", -1)
        # 0 cannot be missing.
        never_taken = checked_numbers("missing", missing, 1, {})
        stored_in_full = checked_numbers("full", full, 0, never_taken)
        held = checked_numbers("pinned", pinned, 0, never_taken)
        harmed = checked_numbers("damaged", damaged, 0, never_taken)
        self.own_scheme = scheme
        self.missing_numbers = never_taken
        self.full_numbers = stored_in_full
        self.pinned_numbers = held
        self.damaged_numbers = harmed

    def __eq__(self, other):
        return (isinstance(other, Archive) and self.own_scheme == other.own_scheme
                and self.missing_numbers == other.missing_numbers and self.full_numbers == other.full_numbers
                and self.pinned_numbers == other.pinned_numbers and self.damaged_numbers == other.damaged_numbers)

    def scheme(self):
        return self.own_scheme

    def missing(self):
        return list(self.missing_numbers)

    def full(self):
        return list(self.full_numbers)

    def pinned(self):
        return list(self.pinned_numbers)

    def damaged(self):
        return list(self.damaged_numbers)

    def parent(self, number):
        """The nearest ancestor that was taken; None for 0 and for numbers stored in full."""
        members = self.chain(number)
        if len(members) == 1:
            return None
        return members[1]

    def chain(self, number):
        """The list of a taken number, its parent and so on."""
        check_number(number)
        if number in self.missing_numbers:
            raise InvalidNumber(number)
        members = []
        for member in self.own_scheme.chain(number):
            if member not in self.missing_numbers:
                members.append(member)
            if member in self.full_numbers:
                break
        return members

    def is_kept(self, number, time):
        """Whether a number was taken and is kept at a time, by the scheme or by a pinned number."""
        check_number(number)
        check_time(time)
        if number in self.missing_numbers:
            return False
        return self.own_scheme.is_kept(number, time) or self.is_held(number, time)

    def is_held(self, number, time):
        """Whether a number is in the chain of a pinned number that is not above a time."""
        # The block is tested first, since it is cheaper than the chain.
        first, after = self.own_scheme.block(number)
        return any([number in self.chain(pinned) for pinned in self.pinned_numbers
                    if first <= pinned <= time and (after is None or pinned < after)])

    def pinned_members(self, time):
        """The ascending list of the numbers that are kept only because of pinned numbers."""
        check_time(time)
        members = {}
        for pinned in self.pinned_numbers:
            if pinned <= time:
                for member in self.chain(pinned):
                    members[member] = True
        return sorted([member for member in members if not self.own_scheme.is_kept(member, time)])

    def is_broken(self, number):
        """Whether the chain of a taken number contains a damaged one."""
        return any([member in self.damaged_numbers for member in self.chain(number)])

    def is_restorable(self, number, time):
        """Whether a number is kept at a time and not broken."""
        return self.is_kept(number, time) and not self.is_broken(number)


def archive_rows(archive, time, spans):
    """The numbers in the ascending spans (low, high) that an archive keeps at a time, as ascending rows."""
    by_scheme = kept_rows(archive.scheme(), time)
    rows = []
    for low, high in spans:
        rows += cut_rows(by_scheme, low, high)
    # They stand between the numbers of the rows, so each becomes a row of its own.
    held = numbers_in_spans(archive.pinned_members(time), spans)
    rows = rows_apart(rows, sorted(archive.missing() + held))
    return sorted(rows + [(number, number, 1) for number in held])
