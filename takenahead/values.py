"""What counts as an integer and as a name everywhere in the program (point 2)."""

LONGEST_NAME = 8


def is_integer(value):
    return isinstance(value, int) and not isinstance(value, bool)


def is_within(value, low, high):
    """Tells whether a value of any kind is an integer from `low` to `high`."""
    return is_integer(value) and low <= value <= high


def is_name(value):
    if not isinstance(value, str) or not 1 <= len(value) <= LONGEST_NAME:
        return False
    # Not islower(): it also accepts digits, and letters outside of a to z.
    return all(["a" <= letter <= "z" for letter in value])
