"""The errors of the program. The arguments of each one are also its attributes."""


class TakeError(ValueError):
    """The base of all errors of the program."""


class BadScript(TakeError):
    """The statement at `place` makes a script invalid; `why` names the fault."""

    def __init__(self, place, why):
        self.place = place
        self.why = why


class NoPlace(TakeError):
    """`place` is not a place of the script."""

    def __init__(self, place):
        self.place = place


class NoAnswer(TakeError):
    """`answer` is not a possible answer at a statement."""

    def __init__(self, answer):
        self.answer = answer


class BadKind(TakeError):
    """No kind has the given values; `why` names the fault."""

    def __init__(self, why):
        self.why = why


class BadSystem(TakeError):
    """No system has the given values; `why` names the fault."""

    def __init__(self, why):
        self.why = why


class NoKind(TakeError):
    """`name` is not the name of a kind of the system."""

    def __init__(self, name):
        self.name = name


class NoSession(TakeError):
    """`session` is not the number of a session of the system."""

    def __init__(self, session):
        self.session = session


class BadStep(TakeError):
    """The step with this index cannot be executed."""

    def __init__(self, index):
        self.index = index


class NoMeasure(TakeError):
    """`measure` is not a measure."""

    def __init__(self, measure):
        self.measure = measure


class TooMany(TakeError):
    """There are more than `limit` states."""

    def __init__(self, limit):
        self.limit = limit


class BadLeast(TakeError):
    """`least` is not a value that can be asked for."""

    def __init__(self, least):
        self.least = least


class BadTimes(TakeError):
    """`times` is not a possible count of turns."""

    def __init__(self, times):
        self.times = times


class NoPolls(TakeError):
    """The poll with this index is not possible."""

    def __init__(self, index):
        self.index = index


class BadLag(TakeError):
    """`lag` is not a possible lag of a reader."""

    def __init__(self, lag):
        self.lag = lag


class Endless(TakeError):
    """There is no such lag, because the lateness is endless."""


class BadMost(TakeError):
    """`most` is not a possible bound."""

    def __init__(self, most):
        self.most = most


class NoSettings(TakeError):
    """The system has too many kinds to try out its settings."""


class BadText(TakeError):
    """The text cannot be read; `line` is the index of the line or word with the fault."""

    def __init__(self, line):
        self.line = line
