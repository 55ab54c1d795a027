"""Objects of other kinds than the one that is asked for."""

from takenahead.readers import Reader
from takenahead.schedules import Running, run
from takenahead.scripts import Script
from takenahead.systems import Kind, System


class Thing:
    """An object of a class that the program does not know."""


class Same:
    """An object that claims to be equal to everything."""

    def __eq__(self, other):
        return True

    def __hash__(self):
        return hash((0,))


SCRIPT = Script((("take",),))
KIND = Kind("odd", SCRIPT)
SYSTEM = System(KIND)

NO_NUMBERS = (
    None, True, False, 0.0, 1.0, -1.0, 2.0, 1 + 0j, "", "0", "1", "take", b"take", (), (0,), (1,), [], [0], {}, {0: 0},
    set(), {0}, frozenset(), frozenset((0,)), bytearray(b"a"), range(1), object(), int, str, len, ..., NotImplemented,
    ValueError("x"), Thing(), Same(), SCRIPT, KIND, SYSTEM,
    Running(SYSTEM), run(SYSTEM, []), Reader(0),
)


def without(*classes):
    """The objects that are not of one of these classes."""
    return [value for value in NO_NUMBERS if not isinstance(value, classes)]
