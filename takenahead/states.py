"""States: the situations that have to be distinguished for a measure, and the steps between them (points 19 to 28).

A described number is a pair of its distance and its side. What the document calls the class of a described number
is called its side here.
"""

from takenahead.errors import NoMeasure, TooMany
from takenahead.scripts import answers_of
from takenahead.sessions import FRESH, executed, must_wait, needs_block, next_statement, reserve_after
from takenahead.values import is_measure

# The sides of a number: below a, a itself, between a and b, b itself, above b.
BELOW_A = 0
IS_A = 1
BETWEEN = 2
IS_B = 3
ABOVE_B = 4

END = ("end",)
CRASH = ("crash",)
STOP = ("stop",)
UNMARKED = (None, None)

MOST_STATES = 2000


def start(system, measure):
    """The state of the beginning."""
    check_measure(measure)
    return (("no", "no"), system.ahead, system.crashes, fresh_sessions(system))


def steps(system, measure, state):
    """The list of the tuples (step, offsets, result, gain) of a state, in the order of point 22."""
    check_measure(measure)
    if state == END:
        return []
    items = []
    for session in range(len(system.sessions)):
        items.extend(statement_steps(system, measure, state, session))
    return items + crash_steps(system, measure, state) + stop_steps(measure, state)


def reached(system, measure):
    """Yields each state that can be reached from the start once, the start first."""
    for state, items in explored(system, measure):
        yield state


def reach(system, measure):
    """The number of the states that can be reached from the start."""
    return len(list(reached(system, measure)))


def explored(system, measure):
    """Yields each state that can be reached from the start, in the order of `reached`, with its list of `steps`."""
    states = [start(system, measure)]
    seen = set()
    seen.add(states[0])
    at = 0
    while at < len(states):
        items = steps(system, measure, states[at])
        for item in items:
            result = result_of(item)
            if result not in seen:
                if len(states) == MOST_STATES:
                    raise TooMany(MOST_STATES)
                seen.add(result)
                states.append(result)
        yield (states[at], items)
        at += 1


def check_measure(measure):
    if not is_measure(measure):
        raise NoMeasure(measure)


def result_of(item):
    """The state after an item of `steps`."""
    return item[2]


def fresh_sessions(system):
    return tuple([FRESH for name in system.sessions])


def statement_steps(system, measure, state, session):
    """The items of the steps (session, answer) of one session."""
    sessions = state[3]
    if must_wait(system, sessions, session, width_of(sessions)):
        return []
    ways = [(UNMARKED, 0)]
    taking = needs_block(system, sessions, session)
    if taking:
        ways = markings(measure, state[0], system.kind_of(session).block)
    items = []
    for answer in answers_of(next_statement(system, sessions, session)):
        found = []
        for offsets, gain in ways:
            ready = handed_out(system, state, session, offsets) if taking else state
            result = result_after(system, measure, ready, session, answer)
            if result is not None:
                found.append(((session, answer), offsets, result, gain))
        items.extend(sorted(found, key=result_of))
    return items


def crash_steps(system, measure, state):
    """The item of the crash in a list, or an empty list if it is not listed."""
    status, reserve, crashes, sessions = state
    if crashes == 0 or "out" in status:
        return []
    result = (status, system.ahead, crashes - 1, fresh_sessions(system))
    # Here the numbers that the crash skips lie between a and b.
    gain = reserve if measure == "gap" and status == ("in", "no") else 0
    return [(CRASH, UNMARKED, result, gain)]


def stop_steps(measure, state):
    """The item of the stop in a list, or an empty list if it is not listed."""
    status, reserve, crashes, sessions = state
    if measure == "spread":
        listed = status[0] == "out"
    elif measure == "late":
        listed = status == ("in", "in")
    else:
        listed = status == ("in", "in") and not has_side(numbers_out(sessions), (BETWEEN,))
    return [(STOP, UNMARKED, END, 0)] if listed else []


def markings(measure, status, block):
    """The ways to mark numbers of a new block: the list of the pairs of offsets and gain (the table of point 23)."""
    if status[1] != "no":
        return [(UNMARKED, 0)]
    if status[0] == "no":
        return [(UNMARKED, 0)] + markings_of_a(measure, block)
    ways = [(UNMARKED, block)]
    if measure != "spread":
        # The lateness also counts b itself.
        extra = 1 if measure == "late" else 0
        ways.extend([((None, second), second + extra) for second in range(block)])
    return ways


def markings_of_a(measure, block):
    """The ways to mark a, and b too, in a new block."""
    if measure == "spread":
        return [((first, None), block - first) for first in range(block)]
    ways = [((first, None), block - 1 - first) for first in range(block)]
    extra = 1 if measure == "late" else 0
    for first in range(block):
        for second in range(first + 1, block):
            ways.append(((first, second), second - first - 1 + extra))
    return ways


def handed_out(system, state, session, offsets):
    """The state after a block is handed out to the store of a session, before the rest of the same step."""
    status, reserve, crashes, sessions = state
    block = system.kind_of(session).block
    grown = [
        (place, locks, pushed(system, transaction, block), pushed(system, store, block))
        for place, locks, transaction, store in sessions
    ]
    place, locks, transaction, store = grown[session]
    grown[session] = (place, locks, transaction, new_numbers(system, status, offsets, block))
    marked = ["out" if offset is not None else held for offset, held in zip(offsets, status)]
    return (tuple(marked), reserve_after(system, reserve, block), crashes, tuple(grown))


def pushed(system, numbers, block):
    """Described numbers after the height grew by a block."""
    if system.window is None:
        return numbers
    return tuple([(distance + block, side) for distance, side in numbers])


def new_numbers(system, status, offsets, block):
    """The described numbers of a new block, ascending; `status` is that before the step."""
    sides = [side_in_block(status, offsets, offset) for offset in range(block)]
    if system.window is None:
        return tuple(sorted([(0, side) for side in sides]))
    return tuple(sorted([(block - offset, side) for offset, side in enumerate(sides)]))


def side_in_block(status, offsets, offset):
    """The side of the number with this offset in a new block; `status` is that before the step."""
    first, second = offsets
    if status[1] != "no":
        return ABOVE_B
    if second is not None and offset >= second:
        return IS_B if offset == second else ABOVE_B
    if status[0] != "no":
        return BETWEEN
    if first is None or offset < first:
        return BELOW_A
    return IS_A if offset == first else BETWEEN


def result_after(system, measure, state, session, answer):
    """The state after the next statement of a session, or None if this step is left out of the list."""
    status, reserve, crashes, sessions = state
    place, locks, transaction, store = sessions[session]
    ordered = (place, locks, in_number_order(transaction), in_number_order(store))
    script = system.kind_of(session).script
    after, committed, lost = executed(script, ordered, answer)
    if has_side(lost, (IS_A, IS_B)) or spoils(measure, status, committed):
        return None
    place, locks, transaction, store = after
    changed = list(sessions)
    changed[session] = (place, locks, tuple(sorted(transaction)), tuple(sorted(store)))
    return (status_after(status, committed), reserve, crashes, tuple(changed))


def spoils(measure, status, committed):
    """Tells whether the commit of these numbers makes a and b useless for the measure."""
    if measure == "spread":
        return has_side(committed, (IS_A,))
    if measure == "late":
        return status[1] != "in" and has_side(committed, (IS_A,))
    return has_side(committed, (BETWEEN,))


def status_after(status, committed):
    """The status after the commit of these numbers."""
    return (
        "in" if has_side(committed, (IS_A,)) else status[0],
        "in" if has_side(committed, (IS_B,)) else status[1],
    )


def in_number_order(numbers):
    """Described numbers, the least number first."""
    return tuple(sorted(numbers, key=number_order))


def number_order(number):
    distance, side = number
    return (-distance, side)


def numbers_out(sessions):
    """The list of all described numbers that are out."""
    return [number for place, locks, transaction, store in sessions for number in transaction + store]


def width_of(sessions):
    """The height minus the least number that is out, or None if no number is out. It needs a window."""
    return max([distance for distance, side in numbers_out(sessions)], default=None)


def has_side(numbers, sides):
    """Tells whether one of the described numbers is on one of these sides."""
    return any([side in sides for distance, side in numbers])
