"""Statements, systems and names that several tests use."""

from takenahead.records import gap, late, spread
from takenahead.systems import Kind, System

MEASURES = ("gap", "late", "spread")
VALUE_OF = {"gap": gap, "late": late, "spread": spread}

TAKE, COMMIT, ROLLBACK, DROP, LEAVE = ("take",), ("commit",), ("rollback",), ("drop",), ("leave",)
LOCK, UNLOCK = ("lock", "a"), ("unlock", "a")
CRASH, STOP, END = ("crash",), ("stop",), ("end",)
NONE = (None, None)
FRESH = ((0,), (), (), ())
HUGE = 10 ** 6000

SHORT = (TAKE, COMMIT)
PAIR = (TAKE, TAKE, COMMIT)
MAYBE = (TAKE, ("choose", (COMMIT,), ()))
LOSER = (TAKE, ("choose", (COMMIT,), (ROLLBACK,)), DROP)
LEAVER = (TAKE, ("choose", (LEAVE,), (COMMIT,)))
LOCKER = (LOCK, TAKE, UNLOCK, COMMIT)
REVERSE = (("lock", "b"), ("lock", "a"), TAKE, COMMIT)
ORDERED = (("lock", "a"), ("lock", "b"), COMMIT)
LAST = (COMMIT, TAKE)
MIXED = (TAKE, TAKE, ("choose", (DROP, COMMIT), (("choose", (), (LEAVE,)), ("lock", "a"))))


def one(*script, block=1, **values):
    """A system of one session."""
    return System(Kind("web", script, block=block), **values)


def two(first, second, blocks=(1, 1), **values):
    """A system of two sessions with scripts of their own."""
    return System(Kind("one", first, block=blocks[0]), Kind("two", second, block=blocks[1]), **values)


# Small systems: each with all of its states, and with all of its short schedules, can be compared.
SYSTEMS = (
    one(*SHORT),
    one(*SHORT, block=2, ahead=1, crashes=1),
    one(*SHORT, block=3, ahead=4, crashes=2),
    one(*PAIR, block=3, window=3, crashes=1),
    one(*MAYBE, block=2, ahead=3, crashes=2, window=5),
    one(*LOSER, block=3),
    one(*LEAVER, block=2, window=2),
    one(*LAST, block=3, crashes=1),
    one(*MIXED, block=3, window=4),
    one(TAKE, TAKE, TAKE, window=2),
    two(SHORT, SHORT, (2, 2), window=4),
    two(SHORT, SHORT, (2, 3)),
    two(SHORT, LOSER, (1, 2), window=3, ahead=2, crashes=1),
    two(LOCKER, LOCKER, (2, 1)),
    two(REVERSE, ORDERED, ahead=1, crashes=1),
    two(LEAVER, PAIR, (2, 1), window=3),
    System(Kind("a", MAYBE, block=2, many=2), window=3),
    System(Kind("a", SHORT, many=3), window=2),
    System(Kind("a", SHORT, many=2), Kind("b", (TAKE,), block=2), ahead=1, window=2),
)

# Has more than 2000 states for every measure.
BIG = System(Kind("web", (TAKE, TAKE, TAKE, COMMIT), block=2, many=3), window=8)
