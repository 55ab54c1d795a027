"""Records of what happened to the numbers, and the measures of a record (points 15 to 18)."""


class Record:
    """What happened to the numbers in the steps of a schedule."""

    def __init__(self, commits, lost, out, height, noted, crashes, widest):
        self.commits = commits
        self.lost = lost
        self.out = out
        self.height = height
        self.noted = noted
        self.crashes = crashes
        self.spread = widest


def gaps(record):
    """The ascending list of the pairs of committed numbers with lost numbers, and nothing else, between them."""
    return [(a, b) for a, b in neighbours(record) if b - a > 1]


def gap(record):
    """The greatest count of lost numbers between two such neighbours, or None if there are no neighbours."""
    return max([b - a - 1 for a, b in neighbours(record)], default=None)


def late(record):
    """The greatest difference of a number and a less one that was committed later, or None."""
    found = []
    greatest = -1
    for session, numbers in record.commits:
        if numbers[0] < greatest:
            found.append(greatest - numbers[0])
        greatest = max(greatest, numbers[-1])
    return max(found, default=None)


def spread(record):
    """The greatest difference of the height and the least number that was out, or None."""
    return record.spread


def committed_numbers(record):
    """The list of all committed numbers, in no special order."""
    return [number for session, together in record.commits for number in together]


def neighbours(record):
    """The ascending list of the pairs of committed numbers without a committed number or one that is out between."""
    numbers = sorted(committed_numbers(record) + list(record.out))
    return [(a, b) for a, b in zip(numbers, numbers[1:]) if a not in record.out and b not in record.out]
