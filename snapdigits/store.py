"""A store of snapshots over time, with a log of what has happened to it."""

from snapdigits.archives import MOST_ITEMS, Archive
from snapdigits.errors import InvalidArchive, InvalidBound, InvalidNumber, LimitExceeded, SnapError
from snapdigits.repair import repair
from snapdigits.schemes import Scheme
from snapdigits.wholes import is_integer, is_integer_between

MOST_ENTRIES = 1000
MOST_TAKEN = 10 ** 20
MOST_SKIPPED = 200
LISTS = ("missing", "full", "pinned", "damaged")
TIDIED = ("missing", "full", "damaged")


class Store:
    """A scheme, and what has been taken, skipped, damaged, pinned and planned so far."""

    def __init__(self, scheme):
        if not isinstance(scheme, Scheme):
            raise InvalidArchive("scheme", -1)
        self.own_scheme = scheme
        # A state is replaced by another one and never changed, so it can be returned to.
        self.state = {"time": 0, "missing": [], "full": [], "pinned": [], "damaged": [], "planned": []}
        self.entries = []
        self.earlier_states = []

    def __eq__(self, other):
        return isinstance(other, Store) and self.own_scheme == other.own_scheme and self.state == other.state

    def scheme(self):
        return self.own_scheme

    def time_now(self):
        return self.state["time"]

    def archive(self):
        """The archive of the missing, full, pinned and damaged numbers."""
        return Archive(self.own_scheme, missing=self.state["missing"], full=self.state["full"],
                       pinned=self.state["pinned"], damaged=self.state["damaged"])

    def planned(self):
        """The ascending list of the numbers that will be stored in full when they are taken."""
        return list(self.state["planned"])

    def take(self, count):
        """Takes the next snapshots, planned ones in full, and returns the new time."""
        self.check_log()
        check_count(count, 1, MOST_TAKEN)
        time = self.time_now() + count
        # What is planned is later than all that has been taken.
        full = self.state["full"] + [number for number in self.state["planned"] if number <= time]
        self.enter(("take", count), {**self.state, "time": time, "full": full, "planned": self.planned_after(time)})
        return time

    def skip(self, count):
        """Misses the next snapshots, and returns the new time."""
        self.check_log()
        check_count(count, 1, MOST_SKIPPED)
        now = self.time_now()
        time = now + count
        missing = self.state["missing"] + list(range(now + 1, time + 1))
        after = {**self.state, "time": time, "missing": missing, "planned": self.planned_after(time)}
        self.enter(("skip", count), after)
        return time

    def damage(self, number):
        """Damages a number that is kept now and not damaged yet."""
        self.check_log()
        self.add_kept("damage", "damaged", number)

    def pin(self, number):
        """Pins a number that is kept now and not pinned yet."""
        self.check_log()
        self.add_kept("pin", "pinned", number)

    def unpin(self, number):
        """Ends that a number is pinned."""
        self.check_log()
        pinned = self.state["pinned"]
        if not is_integer(number) or number not in pinned:
            raise InvalidNumber(number)
        self.enter(("unpin", number), {**self.state, "pinned": [other for other in pinned if other != number]})

    def plan(self):
        """Plans the smallest repair, and returns it; None if there is none."""
        self.check_log()
        members = repair(self.archive(), self.time_now())
        if members is None:
            self.enter(("plan",), self.state)
            return None
        self.enter(("plan",), {**self.state, "planned": members})
        return list(members)

    def tidy(self):
        """Removes numbers that do not matter any more, and returns how many entries were removed."""
        self.check_log()
        after = dict(self.state)
        removed = 0
        for name in TIDIED:
            after[name] = [number for number in self.state[name] if self.still_matters(number)]
            removed += len(self.state[name]) - len(after[name])
        self.enter(("tidy",), after)
        return removed

    def log(self):
        """The list of the calls that have returned, as tuples of a name and an argument."""
        return list(self.entries)

    def undo(self, count):
        """Returns to the state before the last entries, and removes them from the log."""
        check_count(count, 0, len(self.entries))
        if count > 0:
            self.state = self.earlier_states[-count]
            self.entries = self.entries[:-count]
            self.earlier_states = self.earlier_states[:-count]

    def check_log(self):
        if len(self.entries) == MOST_ENTRIES:
            raise LimitExceeded(MOST_ENTRIES)

    def planned_after(self, time):
        return [number for number in self.state["planned"] if number > time]

    def add_kept(self, call, name, number):
        """Adds a number that is kept now to one of the lists."""
        if not self.archive().is_kept(number, self.time_now()) or number in self.state[name]:
            raise InvalidNumber(number)
        self.enter((call, number), {**self.state, name: sorted(self.state[name] + [number])})

    def still_matters(self, number):
        """Whether a number is 0, or lives still, or has a pinned number in its block."""
        if number == 0 or self.own_scheme.last_time(number) >= self.time_now():
            return True
        first, after = self.own_scheme.block(number)
        return any([first <= pinned < after for pinned in self.state["pinned"]])

    def enter(self, entry, after):
        """Makes an entry of a call that leads to a state."""
        if any([len(after[name]) > MOST_ITEMS for name in LISTS]):
            raise LimitExceeded(MOST_ITEMS)
        self.earlier_states.append(self.state)
        self.entries.append(entry)
        self.state = after


def replay(scheme, log):
    """The store that a log leads to."""
    store = Store(scheme)
    if not isinstance(log, list):
        raise InvalidArchive("log", -1)
    for at, entry in enumerate(log):
        if not is_repeated(store, entry):
            raise InvalidArchive("log", at)
    return store


def is_repeated(store, entry):
    """Makes the call of an entry, and returns whether it is a call that returns."""
    if not isinstance(entry, tuple) or len(entry) == 0 or not isinstance(entry[0], str):
        return False
    try:
        if len(entry) == 1:
            return call_alone(store, entry[0])
        return len(entry) == 2 and call_with(store, entry[0], entry[1])
    except SnapError:
        return False


def call_alone(store, name):
    """Makes a call without an argument; False if there is none of this name."""
    if name == "plan":
        store.plan()
    elif name == "tidy":
        store.tidy()
    else:
        return False
    return True


def call_with(store, name, argument):
    """Makes a call with an argument; False if there is none of this name."""
    if name == "take":
        store.take(argument)
    elif name == "skip":
        store.skip(argument)
    elif name == "damage":
        store.damage(argument)
    elif name == "pin":
        store.pin(argument)
    elif name == "unpin":
        store.unpin(argument)
    else:
        return False
    return True


def check_count(count, least, greatest):
    if not is_integer_between(count, least, greatest):
        raise InvalidBound("count")
