"""Systems at work, and what the steps of a schedule do (points 10 to 14)."""

from takenahead.errors import BadStep, NoSession
from takenahead.records import Record
from takenahead.scripts import is_answer
from takenahead.sessions import FRESH, executed, must_wait, needs_block, next_statement, reserve_after
from takenahead.values import is_within


class Running:
    """A system at work."""

    def __init__(self, system):
        self.system = system
        self.moment = Moment(system)

    def __call__(self, step):
        """Executes a step."""
        if not self.moment.allows(step):
            raise BadStep(len(self.moment.done))
        self.moment.execute(step)

    def __enter__(self):
        # The steps in the block work on a copy, and the end of the block goes back to what was copied.
        self.moment = self.moment.copied()
        return self

    def __exit__(self, kind, value, trace):
        self.moment = self.moment.origin

    def can(self, session):
        """Tells whether the next statement of a session can be executed."""
        if not is_within(session, 0, len(self.system.sessions) - 1):
            raise NoSession(session)
        return not self.moment.holds_up(session)

    def waits(self):
        """The ascending list of the sessions that wait."""
        return [session for session in range(len(self.system.sessions)) if self.moment.holds_up(session)]

    def history(self):
        """The list of the steps that were executed so far."""
        return list(self.moment.done)

    def record(self):
        """A new record of what happened so far."""
        return self.moment.recorded()

    def trial(self, schedule):
        """The record after further steps, which are then taken back."""
        with self:
            follow(self.moment, schedule)
            return self.record()


def run(system, schedule):
    """The record after the steps of a schedule."""
    moment = Moment(system)
    follow(moment, schedule)
    return moment.recorded()


def follow(moment, schedule):
    """Executes the steps of a list; the errors name the index in this list."""
    if not isinstance(schedule, list):
        raise BadStep(-1)
    for index, step in enumerate(schedule):
        if not moment.allows(step):
            raise BadStep(index)
        moment.execute(step)


class Moment:
    """Where the counter and the sessions of a system are, and what happened to the numbers before."""

    def __init__(self, system):
        self.system = system
        self.height = 0
        # The noted height minus the height.
        self.reserve = system.ahead
        self.crashes = system.crashes
        self.sessions = [FRESH for name in system.sessions]
        self.commits = []
        self.lost = []
        self.spread = None
        # The steps that were executed.
        self.done = []
        # What this is a copy of, if it is one.
        self.origin = None

    def copied(self):
        other = Moment(self.system)
        other.height = self.height
        other.reserve = self.reserve
        other.crashes = self.crashes
        other.sessions = list(self.sessions)
        other.commits = list(self.commits)
        other.lost = list(self.lost)
        other.spread = self.spread
        other.done = list(self.done)
        other.origin = self
        return other

    def recorded(self):
        """A new record, which later steps do not change."""
        noted = self.height + self.reserve
        return Record(
            list(self.commits), sorted(self.lost), self.owners(), self.height, noted, self.crashes, self.spread,
        )

    def owners(self):
        """A dict from each number that is out to its session."""
        return {
            number: session
            for session, (place, locks, transaction, store) in enumerate(self.sessions)
            for number in transaction + store
        }

    def width(self):
        """The height minus the least number that is out, or None if no number is out."""
        return max([self.height - number for number in list(self.owners())], default=None)

    def holds_up(self, session):
        """Tells whether a session waits."""
        return must_wait(self.system, self.sessions, session, self.width())

    def allows(self, step):
        """Tells whether an object of any kind is a step that can be executed now."""
        if is_crash(step):
            return self.crashes > 0
        if not isinstance(step, tuple) or len(step) != 2:
            return False
        session, answer = step
        if not is_within(session, 0, len(self.sessions) - 1) or self.holds_up(session):
            return False
        return is_answer(next_statement(self.system, self.sessions, session), answer)

    def execute(self, step):
        """Executes a step that can be executed now."""
        if is_crash(step):
            self.crash()
        else:
            session, answer = step
            self.execute_statement(session, answer)
        self.done.append(step)
        width = self.width()
        if width is not None and (self.spread is None or width > self.spread):
            self.spread = width

    def execute_statement(self, session, answer):
        if needs_block(self.system, self.sessions, session):
            self.hand_out(session)
        script = self.system.kind_of(session).script
        after, committed, lost = executed(script, self.sessions[session], answer)
        self.sessions[session] = after
        if committed:
            self.commits.append((session, committed))
        self.lost.extend(lost)

    def hand_out(self, session):
        """Hands out a block to the store of a session, which is empty."""
        place, locks, transaction, store = self.sessions[session]
        block = self.system.kind_of(session).block
        numbers = tuple(range(self.height, self.height + block))
        self.sessions[session] = (place, locks, transaction, numbers)
        self.height += block
        self.reserve = reserve_after(self.system, self.reserve, block)

    def crash(self):
        noted = self.height + self.reserve
        self.lost.extend(list(self.owners()))
        self.lost.extend(list(range(self.height, noted)))
        self.sessions = [FRESH for name in self.system.sessions]
        self.height = noted
        self.reserve = self.system.ahead
        self.crashes -= 1


def is_crash(step):
    """Tells whether an object of any kind is written like a crash."""
    return isinstance(step, tuple) and len(step) == 1 and isinstance(step[0], str) and step[0] == "crash"
