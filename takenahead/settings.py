"""The settings of a system that keep a bound, and systems in comparison (points 40 and 41)."""

from takenahead.errors import BadMost, BadSystem, NoSettings
from takenahead.measures import greatest
from takenahead.states import check_measure
from takenahead.systems import MOST_AHEAD, MOST_BLOCK, MOST_WINDOW
from takenahead.values import is_within

MOST_BOUND = 200
MOST_KINDS = 2


def blocks_within(system, measure, most):
    """The ascending list of the tuples of blocks with which no value is above `most`."""
    check_arguments(system, measure, most)
    every = [()]
    for kind in system.kinds:
        every = [(*blocks, block) for blocks in every for block in range(1, MOST_BLOCK + 1)]
    return settings_within(every, lambda blocks: system.with_blocks(blocks), measure, most)


def windows_within(system, measure, most):
    """The list of the windows with which no value is above `most`; None comes last."""
    check_arguments(system, measure, most)
    every = list(range(1, MOST_WINDOW + 1)) + [None]
    return settings_within(every, lambda window: system.with_values(window=window), measure, most)


def aheads_within(system, measure, most):
    """The ascending list of the values of `ahead` with which no value is above `most`."""
    check_arguments(system, measure, most)
    every = list(range(MOST_AHEAD + 1))
    return settings_within(every, lambda ahead: system.with_values(ahead=ahead), measure, most)


def compared(one, other, measure):
    """Tells whether the greatest value of one system is "less" or "more" than that of the other one, or the "same"."""
    first, second = rank(greatest(one, measure)), rank(greatest(other, measure))
    if first == second:
        return "same"
    return "less" if first < second else "more"


def free_of_gaps(system):
    """Tells whether no schedule leaves a gap of a lost number."""
    return is_at_most(greatest(system, "gap"), 0)


def check_arguments(system, measure, most):
    check_measure(measure)
    if not is_within(most, 0, MOST_BOUND):
        raise BadMost(most)
    if len(system.kinds) > MOST_KINDS:
        raise NoSettings()


def settings_within(settings, changed, measure, most):
    """The settings with which no value of the changed system is above `most`, without those that it cannot have."""
    kept = []
    for setting in settings:
        try:
            system = changed(setting)
        except BadSystem:
            continue
        if is_at_most(greatest(system, measure), most):
            kept.append(setting)
    return kept


def is_at_most(value, most):
    """Tells whether a result of `greatest` allows no value above `most`."""
    return rank(value) <= rank(("most", most))


def rank(value):
    """What is in the same order as the results of `greatest`: no value is least, endless is most."""
    if value[0] == "most":
        return (1, value[1])
    return (0, 0) if value[0] == "none" else (2, 0)
