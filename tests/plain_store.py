"""A store that keeps its lists itself, number by number, to compare with."""

from digits import walked_chain, walked_level


class Refused(Exception):
    """What a call of the store must raise: the name of the error, and its field."""

    def __init__(self, name, field):
        super().__init__(name, field)
        self.told = (name, field)


class PlainStore:

    def __init__(self, base, factor):
        self.base = base
        self.factor = factor
        self.now = 0
        self.lists = {"missing": [], "full": [], "pinned": [], "damaged": [], "planned": []}
        self.log = []
        self.past = []

    def told(self):
        return (self.now, self.lists, self.log)

    def call(self, name, *arguments):
        if len(self.log) == 1000:
            raise Refused("LimitExceeded", 1000)
        before = (self.now, {key: list(numbers) for key, numbers in self.lists.items()})
        try:
            result = getattr(self, name)(*arguments)
            if any(len(self.lists[key]) > 200 for key in ("missing", "full", "pinned", "damaged")):
                raise Refused("LimitExceeded", 200)
        except Refused:
            self.now, self.lists = before
            raise
        self.past.append(before)
        self.log.append((name, *arguments))
        return result

    def undo(self, count):
        if count.__class__ is bool or not isinstance(count, int) or not 0 <= count <= len(self.log):
            raise Refused("InvalidBound", "count")
        for _ in range(count):
            self.now, self.lists = self.past.pop()
            self.log.pop()

    def chain(self, number):
        members = []
        for member in walked_chain(self.base, number):
            if member not in self.lists["missing"]:
                members.append(member)
            if member in self.lists["full"]:
                break
        return members

    def lives(self, number):
        return number == 0 or self.now <= number + self.factor * self.base ** walked_level(self.base, number)

    def is_kept(self, number):
        if number.__class__ is bool or not isinstance(number, int) or not 0 <= number <= self.now:
            return False
        if number in self.lists["missing"]:
            return False
        return self.lives(number) or any(number in self.chain(pin) for pin in self.lists["pinned"])

    def check_count(self, count, most):
        if count.__class__ is bool or not isinstance(count, int) or not 1 <= count <= most:
            raise Refused("InvalidBound", "count")

    def take(self, count):
        self.check_count(count, 10 ** 20)
        self.now += count
        for number in list(self.lists["planned"]):
            if number <= self.now:
                self.lists["planned"].remove(number)
                self.lists["full"].append(number)
        return self.now

    def skip(self, count):
        self.check_count(count, 200)
        for _ in range(count):
            self.now += 1
            self.lists["missing"].append(self.now)
            if self.now in self.lists["planned"]:
                self.lists["planned"].remove(self.now)
        return self.now

    def damage(self, number):
        self.add("damaged", number)

    def pin(self, number):
        self.add("pinned", number)

    def add(self, key, number):
        if not self.is_kept(number) or number in self.lists[key]:
            raise Refused("InvalidNumber", number)
        self.lists[key] = sorted([*self.lists[key], number])

    def unpin(self, number):
        if number.__class__ is bool or not isinstance(number, int) or number not in self.lists["pinned"]:
            raise Refused("InvalidNumber", number)
        self.lists["pinned"].remove(number)

    def plan(self):
        if 0 in self.lists["damaged"]:
            return None
        members = []
        number = self.now + 1
        # All blocks of what is damaged end before this number.
        horizon = max([0, *[n + self.base ** walked_level(self.base, n) for n in self.lists["damaged"]]])
        while number < horizon:
            if any(member in self.lists["damaged"] for member in self.chain(number)):
                members.append(number)
                number += self.base ** walked_level(self.base, number)
            else:
                number += 1
        if len(members) > 200:
            raise Refused("LimitExceeded", 200)
        self.lists["planned"] = members
        return list(members)

    def tidy(self):
        removed = 0
        for key in ("missing", "full", "damaged"):
            for number in list(self.lists[key]):
                held = any(number in walked_chain(self.base, pin) for pin in self.lists["pinned"])
                if not self.lives(number) and not held:
                    self.lists[key].remove(number)
                    removed += 1
        return removed
