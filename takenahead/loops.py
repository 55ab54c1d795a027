"""Loops: steps that add to the value of a measure each time (points 34 to 36)."""

from takenahead.errors import BadTimes
from takenahead.measures import Roads, shortest_road
from takenahead.states import STOP, UNMARKED, start, steps
from takenahead.values import is_within

MOST_TIMES = 100


def loop(system, measure):
    """The marked steps before, around and after a loop with a gain, or None if the greatest value is not endless."""
    roads = Roads(system, measure)
    turning = roads.turning
    if turning is None:
        return None
    before = shortest_road(roads, 0, turning, 0)
    # No step of this road marks a number, because no step takes a mark away again.
    around = shortest_road(roads, turning, turning, 1)
    after = shortest_road(roads, turning, roads.end, 0)
    return (before, around, after[:-1])


def loop_fault(system, measure, before, around, after):
    """What is wrong with three lists of marked steps that are to show that there is no greatest value, or None."""
    states = [start(system, measure)]
    sums = []
    index = 0
    for marked_steps, turning in ((before, False), (around, True), (after, False)):
        state, total = states[-1], 0
        for step, offsets in marked_steps:
            item = item_of(system, measure, state, step, offsets)
            if item is None or (turning and offsets != UNMARKED):
                return ("step", index)
            state, total, index = item[2], total + item[3], index + 1
        states.append(state)
        sums.append(total)
    if not around or states[2] != states[1]:
        return ("loop",)
    if sums[1] < 1:
        return ("gain",)
    if STOP not in [item[0] for item in steps(system, measure, states[3])]:
        return ("end",)
    return None


def item_of(system, measure, state, step, offsets):
    """The item of the steps of a state with this step and these offsets, or None; a stop has none here."""
    for item in steps(system, measure, state):
        if item[:2] == (step, offsets) and step != STOP:
            return item
    return None


def turned(before, around, after, times):
    """The steps of the three lists, with those of `around` repeated."""
    if not is_within(times, 0, MOST_TIMES):
        raise BadTimes(times)
    return [step for step, offsets in before + around * times + after]
