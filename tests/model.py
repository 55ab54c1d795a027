"""A second, slow program for points 10 to 26, which shares nothing with the package but scripts and systems.

It works on whole sets of numbers, and it derives the states and the gains of point 22 from two numbers that are
marked: the gain of a step is what it adds to the value that a and b have so far.
"""

import copy


class Model:
    def __init__(self, system):
        self.system = system
        self.many = len(system.sessions)
        self.height = 0
        self.noted = system.ahead
        self.crashes = system.crashes
        self.commits = []
        self.lost = set()
        self.spread = None
        self.restart()

    def restart(self):
        self.places = [(0,)] * self.many
        self.transactions = [set() for session in range(self.many)]
        self.stores = [set() for session in range(self.many)]
        self.locks = [set() for session in range(self.many)]

    def statement(self, session):
        return self.system.kind_of(session).script[self.places[session]]

    def out(self):
        return set().union(*self.transactions, *self.stores)

    def committed(self):
        return {number for session, numbers in self.commits for number in numbers}

    def waits(self, session):
        statement = self.statement(session)
        if statement[0] == "lock":
            return any(statement[1] in self.locks[other] for other in range(self.many) if other != session)
        if statement[0] != "take" or self.stores[session] or self.system.window is None or not self.out():
            return False
        return self.height + self.system.kind_of(session).block - min(self.out()) > self.system.window

    def possible(self):
        """All steps that can be executed, ascending, the crash last."""
        found = []
        for session in range(self.many):
            if not self.waits(session):
                found.append((session, 0))
                if self.statement(session)[0] == "choose":
                    found.append((session, 1))
        return found + ([("crash",)] if self.crashes else [])

    def after(self, step):
        """A model like this one, after one more step."""
        other = copy.copy(self)
        for name in ("transactions", "stores", "locks"):
            setattr(other, name, [set(each) for each in getattr(self, name)])
        other.places, other.commits, other.lost = list(self.places), list(self.commits), set(self.lost)
        if step == ("crash",):
            other.crash()
        else:
            other.execute(*step)
        if other.out():
            other.spread = max(other.height - min(other.out()), -1 if other.spread is None else other.spread)
        return other

    def crash(self):
        self.lost |= self.out() | set(range(self.height, self.noted))
        self.restart()
        self.height = self.noted
        self.noted = self.height + self.system.ahead
        self.crashes -= 1

    def execute(self, session, answer):
        kind = self.system.kind_of(session)
        statement = self.statement(session)
        word = statement[0]
        transaction, store = self.transactions[session], self.stores[session]
        if word == "take":
            if not store:
                store |= {self.height + offset for offset in range(kind.block)}
                self.height += kind.block
                if self.height > self.noted:
                    self.noted = self.height + self.system.ahead
            least = min(store)
            store.remove(least)
            transaction.add(least)
        if word == "commit":
            if transaction:
                self.commits.append((session, tuple(sorted(transaction))))
            transaction.clear()
        if word == "lock":
            self.locks[session].add(statement[1])
        if word == "unlock":
            self.locks[session].discard(statement[1])
        if word in ("drop", "leave"):
            self.lost |= store
            store.clear()
        self.places[session] = kind.script.after(self.places[session], answer)
        if word == "rollback" or self.places[session] is None:
            self.lost |= transaction
            transaction.clear()
        if self.places[session] is None:
            self.places[session] = (0,)
            self.locks[session].clear()

    # The marked numbers a and b, each of them None while it is not marked.

    def status_of(self, mark):
        if mark is None:
            return "no"
        return "in" if mark in self.committed() else "out"

    def described(self, number, a, b):
        distance = 0 if self.system.window is None else self.height - number
        if a is None or number < a:
            return (distance, 0)
        if number == a:
            return (distance, 1)
        if b is None or number < b:
            return (distance, 2)
        return (distance, 3 if number == b else 4)

    def state(self, a, b):
        sessions = []
        for session in range(self.many):
            parts = [
                tuple(sorted(self.described(number, a, b) for number in numbers))
                for numbers in (self.transactions[session], self.stores[session])
            ]
            sessions.append((self.places[session], tuple(sorted(self.locks[session])), *parts))
        status = (self.status_of(a), self.status_of(b))
        return (status, self.noted - self.height, self.crashes, tuple(sessions))

    def value(self, measure, a, b):
        """What a and b contribute so far."""
        if a is None:
            return 0
        if b is None:
            return self.height - a - (0 if measure == "spread" else 1)
        return b - a - (0 if measure == "late" else 1)

    def spoiled(self, before, measure, a, b):
        """Tells whether the step from `before` to this model is left out."""
        if a in self.lost or b in self.lost:
            return True
        new = self.committed() - before.committed()
        if measure == "spread":
            return a in new
        if measure == "late":
            return a in new and (b is None or b not in before.committed())
        return a is not None and any(a < number and (b is None or number < b) for number in new)

    def marks(self, before, measure, a, b):
        """All ways to go on with a and b, as (a, b), where this model is one step behind `before`."""
        new = range(before.height, self.height)
        found = [(a, b)]
        if a is None:
            found += [(number, None) for number in new]
            found += [(one, two) for one in new for two in new if one < two and measure != "spread"]
        elif b is None and measure != "spread":
            found += [(a, number) for number in new]
        return found

    def finished(self, measure, a, b):
        if measure == "spread":
            return self.status_of(a) == "out"
        if self.status_of(a) != "in" or self.status_of(b) != "in":
            return False
        return measure == "late" or not any(a < number < b for number in self.out())

    def items(self, measure, a, b):
        """What `steps` returns, each item together with the model, the a and the b behind it."""
        found = []
        for step in self.possible():
            after = self.after(step)
            # The numbers that a crash skips cannot be marked: they are never handed out.
            ways = [(a, b)] if step == ("crash",) else after.marks(self, measure, a, b)
            group = []
            for one, two in ways:
                if step == ("crash",) and "out" in (self.status_of(a), self.status_of(b)):
                    continue
                if after.spoiled(self, measure, one, two):
                    continue
                offsets = (
                    None if one == a else one - self.height,
                    None if two == b else two - self.height,
                )
                gain = after.value(measure, one, two) - self.value(measure, a, b)
                group.append(((step, offsets, after.state(one, two), gain), after, one, two))
            found += sorted(group, key=lambda row: row[0][2])
        if self.finished(measure, a, b):
            found.append(((("stop",), (None, None), ("end",), 0), None, None, None))
        return found
