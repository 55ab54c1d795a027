"""Moments at which every session waits (points 42 to 44)."""

from takenahead.errors import TooMany
from takenahead.measures import traced
from takenahead.states import CRASH, MOST_STATES, UNMARKED, start, steps

# Plain states and their items are the same for every measure.
MEASURE = "spread"


def plain_states(system):
    """The ascending list of the plain states."""
    return sorted(list(plain_origins(system)))


def stuck(system):
    """A schedule with the fewest steps after which every session waits, or None."""
    origins = plain_origins(system)
    # The states stand in the order of their distances from the start.
    for state in origins:
        if is_stuck(system, state):
            return traced(origins, state)
    return None


def plain_fault(system, states):
    """What is wrong with a list of plain states that is to show that the sessions never get stuck, or None."""
    known = set(states)
    if start(system, MEASURE) not in known:
        return ("start",)
    for state in states:
        for step, result in plain_steps(system, state):
            if result not in known:
                return ("missing", state, step)
        if is_stuck(system, state):
            return ("stuck", state)
    return None


def plain_origins(system):
    """A dict from each plain state to the one before it and the step between, or None for the start.

    The order is that of the distances from the start.
    """
    first = start(system, MEASURE)
    origins = {first: None}
    states = [first]
    at = 0
    while at < len(states):
        for step, result in plain_steps(system, states[at]):
            if result not in origins:
                if len(states) == MOST_STATES:
                    raise TooMany(MOST_STATES)
                origins[result] = (states[at], step)
                states.append(result)
        at += 1
    return origins


def plain_steps(system, state):
    """The list of the pairs of a step and its result, of the steps from a plain state that mark no number."""
    return [(step, result) for step, offsets, result, gain in steps(system, MEASURE, state) if offsets == UNMARKED]


def is_stuck(system, state):
    """Tells whether every session waits in a plain state."""
    return all([step == CRASH for step, result in plain_steps(system, state)])
