"""The greatest value of a measure, and schedules that have a value (points 29 to 31)."""

from takenahead.errors import BadLeast
from takenahead.states import END, check_measure, explored
from takenahead.values import is_within

MOST_OF_WITNESS = 200
MOST_OF_SHORTEST = 20


class Roads:
    """The states of a system for a measure, which are numbered, and the steps between them.

    The start has the number 0, and `end` is the number of ("end",), or None if it cannot be reached. `ways` has for
    each state the list of its items (step, offsets, result, gain), where the result is the number of a state.
    `prices` has for each state the greatest sum of a road to the end, where roads that come back to a state they
    left do not count, or None if there is no road to the end. `turning` is the number of a state that such a road
    leaves with a gain and can come back to, and from which the end can be reached; None if there is no such state.
    """

    def __init__(self, system, measure):
        found = list(explored(system, measure))
        self.states = [state for state, items in found]
        numbers = {state: number for number, state in enumerate(self.states)}
        self.end = numbers.get(END)
        self.ways = [
            [(step, offsets, numbers[result], gain) for step, offsets, result, gain in items] for state, items in found
        ]
        parts = parts_of(self.ways)
        self.prices = prices_of(self.ways, parts, self.end)
        self.turning = turning_of(self.ways, parts, self.prices)


def greatest(system, measure):
    """The greatest value of a measure over all schedules."""
    roads = Roads(system, measure)
    if roads.turning is not None:
        return ("endless",)
    price = roads.prices[0]
    return ("none",) if price is None else ("most", price)


def witness(system, measure, least):
    """A schedule whose record has a value of at least `least`, or None."""
    check_measure(measure)
    if not is_within(least, 0, MOST_OF_WITNESS):
        raise BadLeast(least)
    # A schedule with the fewest steps keeps the bound of point 30: its road visits no state twice with the same sum.
    return fewest_steps(system, measure, least)


def shortest(system, measure, least):
    """Such a schedule with the fewest steps, or None."""
    check_measure(measure)
    if not is_within(least, 0, MOST_OF_SHORTEST):
        raise BadLeast(least)
    return fewest_steps(system, measure, least)


def fewest_steps(system, measure, least):
    """A schedule with the fewest steps whose record has a value of at least `least`, or None."""
    roads = Roads(system, measure)
    road = shortest_road(roads, 0, roads.end, least)
    if road is None:
        return None
    return [step for step, offsets in road[:-1]]


def shortest_road(roads, first, last, least):
    """The marked steps of a road between two states, as few as possible, with a sum of at least `least`.

    Returns None if there is no such road.
    """
    goal = (last, least)
    # Sums above `least` count as `least`, so that there are not too many pairs of a state and a sum.
    origins = {(first, 0): None}
    latest = [(first, 0)]
    while latest and goal not in origins:
        found = []
        for number, total in latest:
            for step, offsets, result, gain in roads.ways[number]:
                pair = (result, min(total + gain, least))
                # A road that leaves the states with a price does not come back to them.
                if roads.prices[result] is not None and pair not in origins:
                    origins[pair] = ((number, total), (step, offsets))
                    found.append(pair)
        latest = found
    return traced(origins, goal) if goal in origins else None


def traced(origins, goal):
    """The list of what leads to a goal, where each origin is a pair of what lies before and what leads on from it."""
    found = []
    while origins[goal] is not None:
        goal, way = origins[goal]
        found.append(way)
    return found[::-1]


def parts_of(ways):
    """The states in parts, as lists of numbers: states belong together if roads lead from each one to the other.

    No road leads from a part to an earlier one.
    """
    sources = [[] for items in ways]
    for number, items in enumerate(ways):
        for step, offsets, result, gain in items:
            sources[result].append(number)
    parts = []
    placed = set()
    # The last state that the walk left starts a part, and of what leads there all earlier parts are placed already.
    for root in leaving_order(ways)[::-1]:
        part = []
        waiting = [root]
        while waiting:
            number = waiting.pop()
            if number not in placed:
                placed.add(number)
                part.append(number)
                waiting.extend(sources[number])
        if part:
            parts.append(part)
    return parts


def leaving_order(ways):
    """The numbers of the states in the order in which a walk into the depth leaves them."""
    order = []
    seen = set()
    seen.add(0)
    path = [(0, 0)]
    while path:
        number, index = path.pop()
        if index == len(ways[number]):
            order.append(number)
            continue
        path.append((number, index + 1))
        result = ways[number][index][2]
        if result not in seen:
            seen.add(result)
            path.append((result, 0))
    return order


def prices_of(ways, parts, end):
    """The prices of the states, as described for `Roads`."""
    prices = [None for items in ways]
    for part in parts[::-1]:
        # The states of this part have no price yet, so only roads that leave it count.
        sums = [
            gain + prices[result]
            for number in part
            for step, offsets, result, gain in ways[number]
            if prices[result] is not None
        ]
        price = 0 if part == [end] else max(sums, default=None)
        for number in part:
            prices[number] = price
    return prices


def turning_of(ways, parts, prices):
    """The number of a state that a road leaves with a gain and can come back to, as described for `Roads`."""
    part_of = {number: index for index, part in enumerate(parts) for number in part}
    for number, items in enumerate(ways):
        for step, offsets, result, gain in items:
            if gain > 0 and part_of[result] == part_of[number] and prices[number] is not None:
                return number
    return None
