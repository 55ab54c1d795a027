"""Systems and schedules as texts (points 45 to 47)."""

from takenahead.errors import BadKind, BadSystem, BadText
from takenahead.scripts import MOST_STATEMENTS, fault_of, held_after
from takenahead.states import CRASH
from takenahead.systems import LONGEST_OF_MANY, MOST_SESSIONS, Kind, System

DIGITS = "0123456789"

# The words of the rows of a system and of a kind; an empty one stands for a value.
SYSTEM_ROW = ("system", "ahead", "", "window", "", "crashes", "")
KIND_ROW = ("kind", "", "block", "", "many", "")

# How far the row of a kind and the statements outside of all branches are indented.
OF_KINDS = 2
OF_SCRIPTS = 4
# How much further than a choose the words "yes" and "no" are indented, and then the statements of its branches.
OF_WORDS = 2
OF_BRANCHES = 4

STEP_OF = {"0": (0, 0), "1": (1, 0), "2": (2, 0), "0n": (0, 1), "1n": (1, 1), "2n": (2, 1), "crash": CRASH}


def write_system(system):
    """The text of a system."""
    window = "none" if system.window is None else system.window
    rows = [f"system ahead {system.ahead} window {window} crashes {system.crashes}"]
    for kind in system.kinds:
        rows.append(indented(OF_KINDS, f"kind {kind.name} block {kind.block} many {kind.many}"))
        rows.extend(rows_of(kind.script.statements, OF_SCRIPTS))
    return "".join([row + "\n" for row in rows])


def rows_of(statements, indent):
    """The rows of the statements of a script or a branch."""
    rows = []
    for statement in statements:
        if statement[0] == "choose":
            rows.append(indented(indent, "choose"))
            for word, branch in zip(("yes", "no"), statement[1:]):
                rows.append(indented(indent + OF_WORDS, word))
                rows.extend(rows_of(branch, indent + OF_BRANCHES))
        else:
            rows.append(indented(indent, " ".join(statement)))
    return rows


def indented(indent, row):
    return " " * indent + row


def read_system(text):
    """The system that is written as a text."""
    if not isinstance(text, str):
        raise BadText(-1)
    reading = Reading(text)
    frame = reading.read_frame()
    kinds = []
    while not kinds or reading.at < len(reading.rows):
        kinds.append(reading.read_kind(frame, kinds))
    return with_kinds(frame, kinds)


class Reading:
    """Reads the rows of the text of a system one after another.

    Each row is checked before the next one is read. What is checked is whether some text goes on from here; the
    shortest ways to go on are a statement for a kind and empty branches for a choose.
    """

    def __init__(self, text):
        rows = text.split("\n")
        rest = rows.pop()
        # A row without a newline is wrong everywhere, and so is an empty row.
        self.rows = [*rows, ""] if rest else rows
        # The index of the next row.
        self.at = 0
        # How many more statements the script of this kind can have.
        self.room = 0

    def words(self, indent):
        """The words of the next row if it has this indentation, otherwise an empty list."""
        if self.at == len(self.rows):
            return []
        row = self.rows[self.at]
        found = row[indent:].split(" ")
        return found if row[:indent] == " " * indent and found[0] else []

    def fields(self, indent, form):
        """The values in the next row, which must have this form."""
        words = self.words(indent)
        if len(words) != len(form) or any([part and word != part for word, part in zip(words, form)]):
            raise BadText(self.at)
        return [word for word, part in zip(words, form) if not part]

    def read_frame(self):
        """Reads the first row. Returns a system with its values and a kind that stands for the right ones."""
        ahead, window, crashes = self.fields(0, SYSTEM_ROW)
        window = None if window == "none" else digit_of(window)
        try:
            frame = System(shortest_kind("a", 1, 1), ahead=digit_of(ahead), window=window, crashes=digit_of(crashes))
        except BadSystem:
            raise BadText(self.at) from None
        self.at += 1
        return frame

    def read_kind(self, frame, kinds):
        """Reads the rows of one more kind, and returns it."""
        name, block, many = self.fields(OF_KINDS, KIND_ROW)
        try:
            kind = shortest_kind(name, digit_of(block), digit_of(many))
            system = with_kinds(frame, [*kinds, kind])
        except (BadKind, BadSystem):
            raise BadText(self.at) from None
        self.at += 1
        self.room = LONGEST_OF_MANY if len(system.sessions) == MOST_SESSIONS else MOST_STATEMENTS
        statements, held = self.read_branch(OF_SCRIPTS, (), 0)
        if not statements:
            raise BadText(self.at)
        return Kind(name, statements, block=kind.block, many=kind.many)

    def read_branch(self, indent, above, held):
        """Reads the statements of a branch or of a whole script.

        `above` is what the places of its statements begin with, `held` the count of the transaction before them.
        Returns the tuple of the statements and the count behind them.
        """
        statements = []
        while self.words(indent):
            statement, held = self.read_statement(indent, above + (len(statements),), held)
            statements.append(statement)
        return (tuple(statements), held)

    def read_statement(self, indent, place, held):
        """Reads a statement with its branches. Returns it and the count of the transaction behind it."""
        words = self.words(indent)
        branching = words == ["choose"]
        statement = ("choose", (), ()) if branching else tuple(words)
        if self.room == 0 or fault_of(statement, place, 0, held) is not None:
            raise BadText(self.at)
        self.at += 1
        self.room -= 1
        if not branching:
            return (statement, held_after(statement[0], held))
        branches = []
        counts = []
        for answer, word in enumerate(("yes", "no")):
            self.fields(indent + OF_WORDS, (word,))
            self.at += 1
            branch, count = self.read_branch(indent + OF_BRANCHES, place + (answer,), held)
            branches.append(branch)
            counts.append(count)
        return (("choose", *branches), max(counts))


def shortest_kind(name, block, many):
    return Kind(name, (("take",),), block=block, many=many)


def with_kinds(frame, kinds):
    """The system with the values of a frame and with these kinds."""
    return System(*kinds, ahead=frame.ahead, window=frame.window, crashes=frame.crashes)


def digit_of(word):
    """The number that is written as one digit, or -1 for any other word, which is out of every range here."""
    return DIGITS.find(word) if len(word) == 1 else -1


def write_schedule(schedule):
    """The text of a schedule."""
    return " ".join([word_of(step) for step in schedule])


def word_of(step):
    if step == CRASH:
        return "crash"
    session, answer = step
    return f"{session}n" if answer == 1 else str(session)


def read_schedule(text):
    """The schedule that is written as a text."""
    if not isinstance(text, str):
        raise BadText(-1)
    schedule = []
    # To split an empty text would give one empty word.
    for index, word in enumerate(text.split(" ") if text else []):
        if word not in STEP_OF:
            raise BadText(index)
        schedule.append(STEP_OF[word])
    return schedule
