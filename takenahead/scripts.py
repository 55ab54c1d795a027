"""Scripts: their statements, the places of these, and what is executed after each (points 3 to 6)."""

from takenahead.errors import BadScript, NoAnswer, NoPlace
from takenahead.values import is_integer, is_name

# The number of items of a statement, its word included.
ITEMS = {
    "take": 1,
    "commit": 1,
    "rollback": 1,
    "drop": 1,
    "leave": 1,
    "lock": 2,
    "unlock": 2,
    "choose": 3,
}

MOST_STATEMENTS = 8
MOST_HELD = 3
MOST_NESTED = 2


class Script:
    """A valid script."""

    def __init__(self, statements):
        if not isinstance(statements, tuple):
            raise BadScript((), "form")
        if not statements:
            raise BadScript((), "size")
        check = Check()
        check.check_branch(statements, (), 0)
        self.statements = statements
        self.found = check.found
        self.places = tuple(list(self.found))

    def __len__(self):
        return len(self.places)

    def __contains__(self, place):
        # True and 1.0 equal 1, so equality with a place does not make an object a place.
        if not isinstance(place, tuple) or not all([is_integer(item) for item in place]):
            return False
        return place in self.found

    def __getitem__(self, place):
        if place not in self:
            raise NoPlace(place)
        return self.found[place]

    def __iter__(self):
        raise TypeError("a script is not iterated over: use places_of")

    def __eq__(self, other):
        return isinstance(other, Script) and self.statements == other.statements

    def after(self, place, answer=0):
        """The place of what is executed after the statement at `place`, None at the end of the script."""
        statement = self[place]
        word = statement[0]
        if not is_answer(statement, answer):
            raise NoAnswer(answer)
        if word == "leave":
            return None
        if word == "choose" and statement[1 + answer]:
            return place + (answer, 0)
        return self.behind(place)

    def behind(self, place):
        """The place of what follows the whole statement at `place`, its branches left aside."""
        while place:
            follower = place[:-1] + (place[-1] + 1,)
            if follower in self.found:
                return follower
            # The end of a branch: what follows is what follows its choose.
            place = place[:-2]
        return None


def places_of(script):
    """Yields each place of a script with its statement, in ascending order of the places."""
    for place in script.places:
        yield (place, script[place])


def answers_of(statement):
    """The possible answers at a statement, ascending."""
    return (0, 1) if statement[0] == "choose" else (0,)


def is_answer(statement, answer):
    """Tells whether an object of any kind is a possible answer at a statement."""
    return is_integer(answer) and answer in answers_of(statement)


class Check:
    """Checks statements in reading order, and keeps those that it found valid by their places."""

    def __init__(self):
        self.found = {}

    def check_branch(self, branch, above, held):
        """Checks the statements of a branch, or of the whole script.

        `above` is what the places of its statements begin with, `held` the count of the
        transaction before them. Returns the count behind them.
        """
        for index, statement in enumerate(branch):
            held = self.check_statement(statement, above + (index,), held)
        return held

    def check_statement(self, statement, place, held):
        """Checks a statement with its branches, and returns the count of the transaction behind it."""
        why = fault_of(statement, place, len(self.found), held)
        if why is not None:
            raise BadScript(place, why)
        self.found[place] = statement
        if statement[0] == "choose":
            yes = self.check_branch(statement[1], place + (0,), held)
            no = self.check_branch(statement[2], place + (1,), held)
            return max(yes, no)
        return held_after(statement[0], held)


def fault_of(statement, place, earlier, held):
    """The first fault of a statement by itself, or None.

    `earlier` is the number of statements before it in reading order, `held` the count of the
    transaction before it.
    """
    if earlier == MOST_STATEMENTS:
        return "size"
    if not has_form(statement):
        return "form"
    word = statement[0]
    # A place has two items for each choose that the statement is inside of.
    if word == "choose" and len(place) // 2 == MOST_NESTED:
        return "nested"
    if word in ("lock", "unlock") and not is_name(statement[1]):
        return "name"
    if word == "take" and held == MOST_HELD:
        return "full"
    return None


def held_after(word, held):
    """The count of the transaction behind a statement with this word, which is no choose; `held` is that before it."""
    if word == "take":
        return held + 1
    return 0 if word in ("commit", "rollback", "leave") else held


def has_form(statement):
    """Tells whether an object has the items of a statement, without a look into its branches or its name."""
    if not isinstance(statement, tuple) or not statement:
        return False
    word = statement[0]
    if not isinstance(word, str) or len(statement) != ITEMS.get(word):
        return False
    if word == "choose":
        return isinstance(statement[1], tuple) and isinstance(statement[2], tuple)
    return True
