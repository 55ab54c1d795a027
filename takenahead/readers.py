"""Readers of the committed numbers, and the numbers that they miss (points 37 to 39)."""

from takenahead.errors import BadLag, Endless, NoPolls
from takenahead.measures import fewest_steps, greatest
from takenahead.records import committed_numbers
from takenahead.schedules import Running, run
from takenahead.values import is_integer, is_within

MOST_LAG = 100


class Reader:
    """Looks at the committed numbers from time to time, and tells each one that it finds once."""

    def __init__(self, lag):
        check_lag(lag)
        self.lag = lag
        # The mark, and a dict with the told numbers as its keys.
        self.lowest = 0
        self.told = {}

    @property
    def mark(self):
        """The least number that the reader still looks for."""
        return self.lowest

    def __len__(self):
        return len(self.told)

    def __contains__(self, number):
        return is_integer(number) and number in self.told

    def poll(self, record):
        """Tells the ascending list of the numbers from the mark on that are new to the reader."""
        new = [number for number in committed_numbers(record) if number >= self.lowest and number not in self.told]
        new = sorted(new)
        for number in new:
            self.told[number] = True
        # Without new numbers the mark is where the greatest one of an earlier poll has put it.
        if new:
            self.lowest = max(self.lowest, new[-1] - self.lag)
        return new


def read(system, schedule, polls, lag):
    """The list of what the polls of one new reader tell."""
    check_polls(system, schedule, polls)
    return told_in_polls(Reader(lag), system, schedule, polls)


def missed(system, schedule, polls, lag):
    """The ascending list of the numbers that a reader never tells, with one more poll at the end."""
    check_polls(system, schedule, polls)
    reader = Reader(lag)
    told_in_polls(reader, system, schedule, polls)
    record = run(system, schedule)
    reader.poll(record)
    return sorted([number for number in committed_numbers(record) if number not in reader])


def least_lag(system):
    """The smallest lag with which no reader misses a number."""
    value = greatest(system, "late")
    if value[0] == "endless":
        raise Endless()
    return value[1] if value[0] == "most" else 0


def losing(system, lag):
    """A schedule and polls with which a reader with this lag misses a number, or None."""
    check_lag(lag)
    schedule = fewest_steps(system, "late", lag + 1)
    if schedule is None:
        return None
    # No shorter schedule is as late, so its last step commits the late number: a poll just before has told a number
    # that is greater by more than the lag.
    return (schedule, [len(schedule) - 1])


def check_lag(lag):
    if not is_within(lag, 0, MOST_LAG):
        raise BadLag(lag)


def check_polls(system, schedule, polls):
    """Checks a schedule, and after that the polls in it."""
    run(system, schedule)
    if not isinstance(polls, list):
        raise NoPolls(-1)
    earliest = 0
    for index, poll in enumerate(polls):
        if not is_within(poll, earliest, len(schedule)):
            raise NoPolls(index)
        earliest = poll


def told_in_polls(reader, system, schedule, polls):
    """The list of what a reader tells in the polls, each of which takes place after so many steps of a schedule."""
    running = Running(system)
    told = []
    done = 0
    for poll in polls:
        for step in schedule[done:poll]:
            running(step)
        done = poll
        told.append(reader.poll(running.record()))
    return told
