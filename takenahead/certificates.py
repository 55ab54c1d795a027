"""Certificates: tables of prices that no schedule can exceed (points 32 and 33)."""

from takenahead.measures import Roads
from takenahead.states import END, start, steps
from takenahead.values import is_within


def certificate(system, measure):
    """A dict from each state to the greatest sum of a road to the end, or None if the greatest value is endless."""
    roads = Roads(system, measure)
    if roads.turning is not None:
        return None
    return {state: price for state, price in zip(roads.states, roads.prices)}


def certificate_fault(system, measure, certificate, most):
    """What is wrong with a dict from states to prices that is to show that no value is above `most`, or None."""
    first = start(system, measure)
    if first not in certificate or is_less(most, certificate[first]):
        return ("start",)
    if END in certificate and not is_within(certificate[END], 0, 0):
        return ("end",)
    for state in certificate:
        for step, offsets, result, gain in steps(system, measure, state):
            if result not in certificate:
                return ("missing", state, step)
            price = certificate[result]
            if price is not None and is_less(certificate[state], gain + price):
                return ("price", state, step)
    return None


def is_less(one, other):
    """Compares two prices; None is less than every integer."""
    if one is None or other is None:
        return one is None and other is not None
    return one < other
