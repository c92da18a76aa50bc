"""The change from one scheme to another one at a time."""

from snapdigits.errors import InvalidScheme, InvalidTime
from snapdigits.kept import count_kept
from snapdigits.levels import cut_rows, kept_rows, kept_spans, places_up_to, round_down, round_up
from snapdigits.wholes import check_number, check_time, is_integer_from


class Change:
    """Up to a time an old scheme keeps the numbers, and from then on a new one."""

    def __init__(self, old, new, time):
        if not is_power(old.base(), new.base()):
            raise InvalidScheme("base")
        check_time(time)
        self.old_scheme = old
        self.new_scheme = new
        self.change_time = time

    def old(self):
        return self.old_scheme

    def new(self):
        return self.new_scheme

    def changed_at(self):
        return self.change_time

    def is_kept(self, number, time):
        """Whether the new scheme keeps a number and the old one had not dropped it."""
        return self.is_kept_by_new(number, time) and not self.was_dropped(number)

    def is_gone(self, number, time):
        """Whether the new scheme keeps a number, but the old one had dropped it."""
        return self.is_kept_by_new(number, time) and self.was_dropped(number)

    def gone_count(self, time):
        """How many numbers are gone at a time."""
        self.check_later(time)
        return sum([count_apart(low, high, step, kept_step) for low, high, step, kept_step in self.gone_rows(time)])

    def next_gone(self, number, time):
        """The least number from a number on that is gone at a time; None if there is none."""
        check_number(number)
        self.check_later(time)
        for low, high, step, kept_step in self.gone_rows(time):
            found = first_apart(max(low, number), step, kept_step)
            if found <= high:
                return found
        return None

    def settled_from(self):
        """The first time, not before the change, from which on no number is gone."""
        # Of each level of the new scheme the greatest number that the old one dropped in a span lives longest.
        # If it is so old that the new scheme does not keep it either, it ends before the change.
        settled = self.change_time
        spans = kept_spans(self.old_scheme, self.change_time)
        for place in places_up_to(self.new_scheme.base(), self.change_time):
            life = self.new_scheme.factor() * place
            for low, high, kept_step in spans:
                step = min(kept_step, place * self.new_scheme.base())
                found = last_apart(high, place, step)
                if place < step and found >= low:
                    settled = max(settled, found + life + 1)
        return settled

    def dropped_count(self):
        """How many numbers the old scheme keeps at the change and the new one does not."""
        kept_by_both = count_kept(self.new_scheme, self.change_time) - self.gone_count(self.change_time)
        return count_kept(self.old_scheme, self.change_time) - kept_by_both

    def is_moved(self, number):
        """Whether both schemes keep a number at the change, with different parents."""
        return (self.old_scheme.is_kept(number, self.change_time)
                and self.new_scheme.is_kept(number, self.change_time)
                and self.old_scheme.parent(number) != self.new_scheme.parent(number))

    def moved_count(self):
        """How many numbers are moved."""
        base = self.old_scheme.base()
        time = self.change_time
        total = 0
        for new_place in places_up_to(self.new_scheme.base(), time):
            above = new_place * self.new_scheme.base()
            new_oldest = time - self.new_scheme.factor() * new_place
            for place in places_up_to(base, min(time, above - 1)):
                if place >= new_place:
                    oldest = max(1, new_oldest, time - self.old_scheme.factor() * place)
                    total += moved_up_to(base, place, above, time) - moved_up_to(base, place, above, oldest - 1)
        return total

    def is_kept_by_new(self, number, time):
        check_number(number)
        self.check_later(time)
        return self.new_scheme.is_kept(number, time)

    def was_dropped(self, number):
        """Whether the old scheme had dropped a number at the change."""
        return number <= self.change_time and not self.old_scheme.is_kept(number, self.change_time)

    def check_later(self, time):
        if not is_integer_from(time, self.change_time):
            raise InvalidTime(time)

    def gone_rows(self, time):
        """The numbers that are gone at a time, as ascending tuples (low, high, step, kept_step).

        Each stands for the multiples of step from low to high that are no multiples of kept_step. All steps
        are powers of the old base, so what both schemes keep there are the multiples of the greater step.
        """
        rows = []
        spans = kept_spans(self.old_scheme, self.change_time)
        for first, last, step in cut_rows(kept_rows(self.new_scheme, time), 0, self.change_time):
            for low, high, kept_step in spans:
                if step < kept_step and max(first, low) <= min(last, high):
                    rows.append((max(first, low), min(last, high), step, kept_step))
        return rows


def is_power(base, number):
    """Whether a number above 1 is a power of a base."""
    while number % base == 0:
        number //= base
    return number == 1


def count_multiples(low, high, step):
    return high // step - (low - 1) // step


def count_apart(low, high, step, greater):
    """How many multiples of a step from low to high are no multiples of a greater one."""
    return count_multiples(low, high, step) - count_multiples(low, high, greater)


def first_apart(low, step, greater):
    """The least multiple of a step from low on that is no multiple of a greater one."""
    found = round_up(low, step)
    return found + step if found % greater == 0 else found


def last_apart(high, step, greater):
    """The greatest multiple of a step up to high that is no multiple of a greater one."""
    found = round_down(high, step)
    return found - step if found % greater == 0 else found


def moved_up_to(base, place, above, most):
    """How many numbers up to a number have the level of a place of the old scheme and are given another parent.

    Above is the next place of the new scheme. The parent stays the same if all digits between are 0.
    """
    of_level = most // place - most // (place * base)
    staying = most // above * (base - 1) + min(base - 1, most % above // place)
    return of_level - staying
