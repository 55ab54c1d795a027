"""What counts as an integer, as a name and as a measure everywhere in the program (points 2 and 19)."""

LONGEST_NAME = 8
MEASURES = ("gap", "late", "spread")


def is_integer(value):
    return isinstance(value, int) and not isinstance(value, bool)


def is_within(value, low, high):
    """Tells whether a value of any kind is an integer from `low` to `high`."""
    return is_integer(value) and low <= value <= high


def is_name(value):
    if not isinstance(value, str) or not 1 <= len(value) <= LONGEST_NAME:
        return False
    # Not islower(): it also accepts digits, and letters outside of a to z.
    return all(["a" <= letter <= "z" for letter in value])


def is_measure(value):
    # Without the first test, an object that claims to be equal to everything would be a measure.
    return isinstance(value, str) and value in MEASURES
