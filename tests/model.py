"""A second, slow program for points 10 to 36, which shares nothing with the package but scripts and systems.

It works on whole sets of numbers, and it derives the states and the gains of point 22 from two numbers that are
marked: the gain of a step is what it adds to the value that a and b have so far.
"""

import copy


class Model:
    def __init__(self, system):
        self.system = system
        self.many = len(system.sessions)
        self.height = 0
        self.noted = system.ahead
        self.crashes = system.crashes
        self.commits = []
        self.lost = set()
        self.spread = None
        self.restart()

    def restart(self):
        self.places = [(0,)] * self.many
        self.transactions = [set() for session in range(self.many)]
        self.stores = [set() for session in range(self.many)]
        self.locks = [set() for session in range(self.many)]

    def statement(self, session):
        return self.system.kind_of(session).script[self.places[session]]

    def out(self):
        return set().union(*self.transactions, *self.stores)

    def committed(self):
        return {number for session, numbers in self.commits for number in numbers}

    def waits(self, session):
        statement = self.statement(session)
        if statement[0] == "lock":
            return any(statement[1] in self.locks[other] for other in range(self.many) if other != session)
        if statement[0] != "take" or self.stores[session] or self.system.window is None or not self.out():
            return False
        return self.height + self.system.kind_of(session).block - min(self.out()) > self.system.window

    def possible(self):
        """All steps that can be executed, ascending, the crash last."""
        found = []
        for session in range(self.many):
            if not self.waits(session):
                found.append((session, 0))
                if self.statement(session)[0] == "choose":
                    found.append((session, 1))
        return found + ([("crash",)] if self.crashes else [])

    def after(self, step):
        """A model like this one, after one more step."""
        other = copy.copy(self)
        for name in ("transactions", "stores", "locks"):
            setattr(other, name, [set(each) for each in getattr(self, name)])
        other.places, other.commits, other.lost = list(self.places), list(self.commits), set(self.lost)
        if step == ("crash",):
            other.crash()
        else:
            other.execute(*step)
        if other.out():
            other.spread = max(other.height - min(other.out()), -1 if other.spread is None else other.spread)
        return other

    def crash(self):
        self.lost |= self.out() | set(range(self.height, self.noted))
        self.restart()
        self.height = self.noted
        self.noted = self.height + self.system.ahead
        self.crashes -= 1

    def execute(self, session, answer):
        kind = self.system.kind_of(session)
        statement = self.statement(session)
        word = statement[0]
        transaction, store = self.transactions[session], self.stores[session]
        if word == "take":
            if not store:
                store |= {self.height + offset for offset in range(kind.block)}
                self.height += kind.block
                if self.height > self.noted:
                    self.noted = self.height + self.system.ahead
            least = min(store)
            store.remove(least)
            transaction.add(least)
        if word == "commit":
            if transaction:
                self.commits.append((session, tuple(sorted(transaction))))
            transaction.clear()
        if word == "lock":
            self.locks[session].add(statement[1])
        if word == "unlock":
            self.locks[session].discard(statement[1])
        if word in ("drop", "leave"):
            self.lost |= store
            store.clear()
        self.places[session] = kind.script.after(self.places[session], answer)
        if word == "rollback" or self.places[session] is None:
            self.lost |= transaction
            transaction.clear()
        if self.places[session] is None:
            self.places[session] = (0,)
            self.locks[session].clear()

    def values(self):
        """The value of each measure, or None: points 16 to 18, word by word."""
        committed, out = self.committed(), self.out()
        commit_of = {number: index for index, (session, numbers) in enumerate(self.commits) for number in numbers}
        pairs = [(a, b) for a in committed for b in committed if a < b]
        gaps = [b - a - 1 for a, b in pairs if not any(number in committed | out for number in range(a + 1, b))]
        lates = [b - a for a, b in pairs if commit_of[b] < commit_of[a]]
        return {"gap": max(gaps, default=None), "late": max(lates, default=None), "spread": self.spread}

    # The marked numbers a and b, each of them None while it is not marked.

    def status_of(self, mark):
        if mark is None:
            return "no"
        return "in" if mark in self.committed() else "out"

    def described(self, number, a, b):
        distance = 0 if self.system.window is None else self.height - number
        if a is None or number < a:
            return (distance, 0)
        if number == a:
            return (distance, 1)
        if b is None or number < b:
            return (distance, 2)
        return (distance, 3 if number == b else 4)

    def state(self, a, b):
        sessions = []
        for session in range(self.many):
            parts = [
                tuple(sorted(self.described(number, a, b) for number in numbers))
                for numbers in (self.transactions[session], self.stores[session])
            ]
            sessions.append((self.places[session], tuple(sorted(self.locks[session])), *parts))
        status = (self.status_of(a), self.status_of(b))
        return (status, self.noted - self.height, self.crashes, tuple(sessions))

    def value(self, measure, a, b):
        """What a and b contribute so far."""
        if a is None:
            return 0
        if b is None:
            return self.height - a - (0 if measure == "spread" else 1)
        return b - a - (0 if measure == "late" else 1)

    def spoiled(self, before, measure, a, b):
        """Tells whether the step from `before` to this model is left out."""
        if a in self.lost or b in self.lost:
            return True
        new = self.committed() - before.committed()
        if measure == "spread":
            return a in new
        if measure == "late":
            return a in new and (b is None or b not in before.committed())
        return a is not None and any(a < number and (b is None or number < b) for number in new)

    def marks(self, before, measure, a, b):
        """All ways to go on with a and b, as (a, b), where this model is one step behind `before`."""
        new = range(before.height, self.height)
        found = [(a, b)]
        if a is None:
            found += [(number, None) for number in new]
            found += [(one, two) for one in new for two in new if one < two and measure != "spread"]
        elif b is None and measure != "spread":
            found += [(a, number) for number in new]
        return found

    def finished(self, measure, a, b):
        if measure == "spread":
            return self.status_of(a) == "out"
        if self.status_of(a) != "in" or self.status_of(b) != "in":
            return False
        return measure == "late" or not any(a < number < b for number in self.out())

    def items(self, measure, a, b):
        """What `steps` returns, each item together with the model, the a and the b behind it."""
        found = []
        for step in self.possible():
            after = self.after(step)
            # The numbers that a crash skips cannot be marked: they are never handed out.
            ways = [(a, b)] if step == ("crash",) else after.marks(self, measure, a, b)
            group = []
            for one, two in ways:
                if step == ("crash",) and "out" in (self.status_of(a), self.status_of(b)):
                    continue
                if after.spoiled(self, measure, one, two):
                    continue
                offsets = (
                    None if one == a else one - self.height,
                    None if two == b else two - self.height,
                )
                gain = after.value(measure, one, two) - self.value(measure, a, b)
                group.append(((step, offsets, after.state(one, two), gain), after, one, two))
            found += sorted(group, key=lambda row: row[0][2])
        if self.finished(measure, a, b):
            found.append(((("stop",), (None, None), ("end",), 0), None, None, None))
        return found


def graph_of(system, measure):
    """A dict from each state that can be reached to the list of what `steps` returns for it."""
    first = Model(system)
    graph = {}
    waiting = [(first.state(None, None), first, None, None)]
    while waiting:
        state, model, a, b = waiting.pop()
        if state in graph:
            continue
        rows = [] if state == ("end",) else model.items(measure, a, b)
        graph[state] = [row[0] for row in rows]
        waiting += [(item[2], *behind) for item, *behind in rows]
    return graph


def prices_of(graph):
    """The greatest sum of a road from each state to the end, or None instead of all if there is no greatest one.

    Each turn looks at roads that are one step longer. A road without a return is shorter than there are states, so
    a turn after those that still finds a greater sum has found a return with a gain.
    """
    prices = dict.fromkeys(graph)
    if ("end",) in graph:
        prices[("end",)] = 0
    for turn in range(len(graph) + 1):
        changed = False
        for state, items in graph.items():
            for step, offsets, result, gain in items:
                price = prices[result]
                if price is not None and (prices[state] is None or prices[state] < gain + price):
                    prices[state] = gain + price
                    changed = True
        if not changed:
            return prices
    return None


def greatest_of(system, measure):
    """What `greatest` returns."""
    graph = graph_of(system, measure)
    prices = prices_of(graph)
    if prices is None:
        return ("endless",)
    price = prices[Model(system).state(None, None)]
    return ("none",) if price is None else ("most", price)


def fewest_of(system, longest):
    """For each measure a dict from a value to the fewest steps of a schedule with it, of all with up to `longest`."""
    found = {"gap": {}, "late": {}, "spread": {}}
    models = [Model(system)]
    for length in range(longest + 1):
        for model in models:
            for measure, value in model.values().items():
                if value is not None:
                    found[measure].setdefault(value, length)
        if length < longest:
            models = [model.after(step) for model in models for step in model.possible()]
    return found
