"""Kinds of sessions, and systems of them (points 7 to 9)."""

from takenahead.errors import BadKind, BadScript, BadSystem, NoKind, NoSession
from takenahead.scripts import Script
from takenahead.values import is_name, is_within

MOST_BLOCK = 3
MOST_SESSIONS = 3
# The longest script of a system with as many sessions as possible.
LONGEST_OF_MANY = 4
MOST_AHEAD = 4
MOST_WINDOW = 8
MOST_CRASHES = 2


class Kind:
    """One or several sessions that execute the same script."""

    def __init__(self, name, script, *, block=1, many=1):
        if not is_name(name):
            raise BadKind("name")
        script = script_of(script)
        if not is_within(block, 1, MOST_BLOCK):
            raise BadKind("block")
        if not is_within(many, 1, MOST_SESSIONS):
            raise BadKind("many")
        self.name = name
        self.script = script
        self.block = block
        self.many = many

    def __eq__(self, other):
        return (
            isinstance(other, Kind)
            and self.name == other.name
            and self.script == other.script
            and self.block == other.block
            and self.many == other.many
        )


class System:
    """Kinds of sessions that share one counter."""

    def __init__(self, *kinds, ahead=0, window=None, crashes=0):
        why = fault_of_system(kinds, ahead, window, crashes)
        if why is not None:
            raise BadSystem(why)
        self.kinds = kinds
        self.ahead = ahead
        self.window = window
        self.crashes = crashes
        self.sessions = tuple([kind.name for kind in kinds for index in range(kind.many)])

    def __getitem__(self, name):
        for kind in self.kinds:
            if isinstance(name, str) and kind.name == name:
                return kind
        raise NoKind(name)

    def __iter__(self):
        raise TypeError("a system is not iterated over: use its kinds or its sessions")

    def __eq__(self, other):
        return (
            isinstance(other, System)
            and self.kinds == other.kinds
            and self.ahead == other.ahead
            and self.window == other.window
            and self.crashes == other.crashes
        )

    def kind_of(self, session):
        """The kind of the session with this number."""
        if not is_within(session, 0, len(self.sessions) - 1):
            raise NoSession(session)
        return self[self.sessions[session]]

    def with_values(self, *, ahead=-1, window=-1, crashes=-1):
        """A new system with these values, where -1 keeps the value of this one."""
        kinds = self.kinds
        ahead = value_or_kept(ahead, self.ahead)
        window = value_or_kept(window, self.window)
        crashes = value_or_kept(crashes, self.crashes)
        return System(*kinds, ahead=ahead, window=window, crashes=crashes)

    def with_blocks(self, blocks):
        """A new system whose kinds have these blocks, in their order."""
        if not are_blocks(blocks, len(self.kinds)):
            raise BadSystem("blocks")
        kinds = [
            Kind(kind.name, kind.script, block=block, many=kind.many)
            for kind, block in zip(self.kinds, blocks)
        ]
        return System(*kinds, ahead=self.ahead, window=self.window, crashes=self.crashes)


def script_of(script):
    """The script that a kind is passed, as a `Script`."""
    if isinstance(script, Script):
        return script
    try:
        return Script(script)
    except BadScript as fault:
        raise BadKind("script") from fault


def fault_of_system(kinds, ahead, window, crashes):
    """The first fault of the values of a system, or None."""
    if not are_kinds(kinds):
        return "kinds"
    full = count_of_sessions(kinds) == MOST_SESSIONS
    if full and max([len(kind.script) for kind in kinds]) > LONGEST_OF_MANY:
        return "size"
    if not is_within(ahead, 0, MOST_AHEAD):
        return "ahead"
    greatest_block = max([kind.block for kind in kinds])
    if window is not None and not is_within(window, greatest_block, MOST_WINDOW):
        return "window"
    if not is_within(crashes, 0, MOST_CRASHES):
        return "crashes"
    return None


def are_kinds(kinds):
    """Tells whether the objects of a tuple can be the kinds of one system."""
    if not kinds or not all([isinstance(kind, Kind) for kind in kinds]):
        return False
    if len(set([kind.name for kind in kinds])) < len(kinds):
        return False
    return count_of_sessions(kinds) <= MOST_SESSIONS


def count_of_sessions(kinds):
    return sum([kind.many for kind in kinds])


def are_blocks(blocks, count):
    """Tells whether an object is a tuple of `count` blocks."""
    if not isinstance(blocks, tuple) or len(blocks) != count:
        return False
    return all([is_within(block, 1, MOST_BLOCK) for block in blocks])


def value_or_kept(value, kept):
    # -1.0 equals -1, but it is a wrong value and not the sign for keeping one.
    return kept if is_within(value, -1, -1) else value
