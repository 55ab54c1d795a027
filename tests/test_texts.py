"""Points 45 to 47: systems and schedules as texts."""

import copy
import inspect
import itertools
import unittest

from odd import NO_NUMBERS, without
from samples import (
    BIG, COMMIT, CRASH, DROP, HUGE, LEAVE, LOCK, MAYBE, MIXED, ROLLBACK, SHORT, SYSTEMS, TAKE, UNLOCK, one, two,
)
from takenahead.errors import BadText
from takenahead.schedules import run
from takenahead.systems import Kind, System
from takenahead.texts import read_schedule, read_system, write_schedule, write_system

EXAMPLE = System(Kind("web", (TAKE, ("choose", (COMMIT,), ())), block=2), window=4)
EXAMPLE_TEXT = """system ahead 0 window 4 crashes 0
  kind web block 2 many 1
    take
    choose
      yes
        commit
      no
"""

NESTED = System(
    Kind("a", (
        ("choose", (("choose", (), (LOCK,)), DROP), (("choose", (LEAVE,), ()),)), UNLOCK, ROLLBACK,
    )),
    Kind("bcdefghi", (("choose", (), ()),), block=3), ahead=4, crashes=2,
)
NESTED_TEXT = """system ahead 4 window none crashes 2
  kind a block 1 many 1
    choose
      yes
        choose
          yes
          no
            lock a
        drop
      no
        choose
          yes
            leave
          no
    unlock a
    rollback
  kind bcdefghi block 3 many 1
    choose
      yes
      no
"""

MORE_SYSTEMS = (
    EXAMPLE, NESTED, BIG,
    one(*[DROP] * 8), one(TAKE, TAKE, TAKE, ("choose", (LEAVE, TAKE), (ROLLBACK,)), TAKE),
    one(("lock", "z"), ("unlock", "abcdefgh"), block=3, window=3, crashes=1),
    System(Kind("a", (DROP,) * 8), Kind("b", (DROP,) * 8), window=8),
    System(Kind("a", (DROP,) * 4), Kind("b", (DROP,) * 4), Kind("c", (DROP,) * 4), ahead=1),
    System(Kind("a", (DROP,) * 4, many=2), Kind("b", (("choose", (TAKE,), (DROP,)), DROP))),
    System(Kind("a", (DROP,) * 8, many=2)),
)

NO_TEXTS = without(str) + [EXAMPLE_TEXT.encode(), [EXAMPLE_TEXT], (EXAMPLE_TEXT,), True, None, 0, HUGE]

HEAD = "system ahead 0 window none crashes 0"
A, B, C = ("  kind " + name + " block 1 many 1" for name in "abc")


def text_of(*rows):
    return "".join(row + "\n" for row in rows)


def tree_of(rows, indent):
    """The statements with an indentation at the beginning of a list of rows, which are removed from it."""
    found = []
    while rows and len(rows[0]) - len(rows[0].lstrip()) == indent:
        words = rows.pop(0).split()
        if words == ["choose"]:
            branches = []
            for word in ("yes", "no"):
                if rows.pop(0).strip() != word:
                    raise ValueError
                branches.append(tree_of(rows, indent + 4))
            words += branches
        found.append(tuple(words))
    return tuple(found)


def system_of(text):
    """The system that is written as a text, or None: what is read with less care, and then written again."""
    try:
        first, *rows = text.split("\n")[:-1]
        head = first.split()
        kinds = []
        while rows:
            words = rows.pop(0).split()
            kinds.append(Kind(words[1], tree_of(rows, 4), block=int(words[3]), many=int(words[5])))
        window = None if head[4] == "none" else int(head[4])
        system = System(*kinds, ahead=int(head[2]), window=window, crashes=int(head[6]))
    except (ValueError, IndexError):
        return None
    return system if write_system(system) == text else None


BRANCH_ENDS = ("      yes\n", "      no\n", "          yes\n", "          no\n")
ENDS = [
    beginning + "".join(end)
    for beginning in ("", "    drop\n", A + "\n    drop\n", HEAD + "\n" + A + "\n    drop\n") for count in range(5)
    for end in itertools.product(BRANCH_ENDS, repeat=count)
]


def goes_on(text):
    """Tells whether the text of a system begins with a text of whole lines."""
    return any(system_of(text + end) is not None for end in ENDS)


class TextCase(unittest.TestCase):
    def assert_bad(self, line, text, read=read_system):
        with self.assertRaises(BadText) as caught:
            read(text)
        self.assertIs(type(caught.exception), BadText)
        self.assertEqual(caught.exception.line, line)
        self.assertIs(type(caught.exception.line), int)


class Interface(unittest.TestCase):
    def test_signatures(self):
        for call, text in (
            (write_system, "(system)"), (read_system, "(text)"), (write_schedule, "(schedule)"), (read_schedule,
            "(text)"),
        ):
            self.assertEqual(str(inspect.signature(call)), text)
            self.assertEqual(call.__module__, "takenahead.texts")


class Systems(TextCase):
    """Point 45, and the first sentence of point 46."""

    def test_examples(self):
        self.assertEqual(write_system(EXAMPLE), EXAMPLE_TEXT)
        self.assertEqual(write_system(NESTED), NESTED_TEXT)
        self.assertEqual(read_system(EXAMPLE_TEXT), EXAMPLE)
        self.assertEqual(read_system(NESTED_TEXT), NESTED)

    def test_each_statement(self):
        system = one(TAKE, COMMIT, ROLLBACK, DROP, LEAVE, ("lock", "abc"), ("unlock", "abcdefgh"), ("choose", (), ()))
        rows = [
            "take", "commit", "rollback", "drop", "leave", "lock abc", "unlock abcdefgh", "choose", "  yes", "  no",
        ]
        text = text_of(HEAD, "  kind web block 1 many 1", *["    " + row for row in rows])
        self.assertEqual(write_system(system), text)
        self.assertEqual(read_system(text), system)

    def test_each_value(self):
        every = itertools.product(range(5), (3, 8, None), range(3), (1, 2, 3), (1, 2, 3))
        for ahead, window, crashes, block, many in every:
            system = System(Kind("a", SHORT, block=block, many=many), ahead=ahead, window=window, crashes=crashes)
            shown = "none" if window is None else window
            text = text_of(
                f"system ahead {ahead} window {shown} crashes {crashes}", f"  kind a block {block} many {many}",
                "    take", "    commit",
            )
            self.assertEqual(write_system(system), text)
            self.assertEqual(read_system(text), system)

    def test_back_and_forth(self):
        for number, system in enumerate(SYSTEMS + MORE_SYSTEMS):
            with self.subTest(number):
                text = write_system(system)
                self.assertIs(type(text), str)
                found = read_system(text)
                self.assertEqual(found, system)
                self.assertIsNot(found, system)
                self.assertEqual(write_system(found), text)
                self.assertEqual(found.sessions, system.sessions)

    def test_names_that_are_words(self):
        for word in ("take", "choose", "yes", "no", "kind", "system", "none", "block", "commit", "leave"):
            system = System(Kind(word, (("lock", word),) * 4 + (TAKE, TAKE, TAKE, ("unlock", word))))
            text = text_of(
                HEAD, "  kind " + word + " block 1 many 1", *["    lock " + word] * 4, *["    take"] * 3,
                "    unlock " + word,
            )
            self.assertEqual(write_system(system), text)
            self.assertEqual(read_system(text), system)
        # A lock of that name does not commit.
        self.assert_bad(6, text_of(HEAD, A, *["    take"] * 3, "    lock commit", "    take"))

    def test_orders(self):
        # The kinds and their sessions stand in the order of the text.
        found = read_system(text_of(HEAD, C, "    drop", "  kind a block 2 many 2", "    take"))
        self.assertEqual([kind.name for kind in found.kinds], ["c", "a"])
        self.assertEqual(found.sessions, ("c", "a", "a"))

    def test_system_stays(self):
        system = System(Kind("a", MIXED, block=3), window=4)
        write_system(system)
        self.assertEqual(system, System(Kind("a", MIXED, block=3), window=4))


class WrongSystems(TextCase):
    """Point 46."""

    def test_no_text(self):
        for text in NO_TEXTS:
            self.assert_bad(-1, text)

    def test_first_line(self):
        for row in (
            "", " ", "system", "system ahead 0 window none", "system ahead 0 window none crashes",
            "kind a block 1 many 1",
            "System ahead 0 window none crashes 0", "system  ahead 0 window none crashes 0",
            "system ahead 0 window none crashes 0 ", " system ahead 0 window none crashes 0",
            "system ahead 0 window none crashes 0 0", "system crashes 0 ahead 0 window none",
            "system ahead 0 window None crashes 0", "system ahead none window none crashes 0",
            "system ahead 5 window none crashes 0", "system ahead -1 window none crashes 0",
            "system ahead 00 window none crashes 0", "system ahead 04 window none crashes 0",
            "system ahead +1 window none crashes 0", "system ahead 1_0 window none crashes 0",
            "system ahead \u0661 window none crashes 0", "system ahead \u00b2 window none crashes 0",
            "system ahead  window none crashes 0", "system ahead x window none crashes 0",
            "system ahead 0 window 0 crashes 0", "system ahead 0 window 9 crashes 0",
            "system ahead 0 window 10 crashes 0",
            "system ahead 0 window 08 crashes 0", "system ahead 0 window  crashes 0",
            "system ahead 0 window -1 crashes 0",
            "system ahead 0 window none crashes 3", "system ahead 0 window none crashes 02",
            "system ahead 0 window none crashes none", "system ahead 0 window none crashes ",
            "system\tahead 0 window none crashes 0", "system ahead 0 window none crashes 0\r", "\u00e9", "\ud800",
            "system ahead 0.0 window none crashes 0", "system ahead 0 window 2.0 crashes 0",
            "system ahead " + "9" * 6000 + " window none crashes 0",
        ):
            self.assert_bad(0, row)
            self.assert_bad(0, text_of(row))
            self.assert_bad(0, text_of(row, A, "    take"))

    def test_line_of_a_kind(self):
        for row in (
            "", "  ", "  kind", "  kind a", "  kind a block 1 many", "kind a block 1 many 1", " kind a block 1 many 1",
            "   kind a block 1 many 1", "    kind a block 1 many 1", "  kind  a block 1 many 1",
            "  kind a block 1 many 1 ",
            "  kind a block 1 many 1 1", "  Kind a block 1 many 1", "  kind a many 1 block 1",
            "\tkind a block 1 many 1",
            "  kind A block 1 many 1", "  kind  block 1 many 1", "  kind abcdefghi block 1 many 1",
            "  kind a1 block 1 many 1", "  kind \u00e9 block 1 many 1", "  kind a-b block 1 many 1",
            "  kind a block 0 many 1", "  kind a block 4 many 1", "  kind a block 01 many 1", "  kind a block x many 1",
            "  kind a block -1 many 1", "  kind a block  many 1", "  kind a block 1 many 0", "  kind a block 1 many 4",
            "  kind a block 1 many 01", "  kind a block 1 many ", "  kind a block 1 many 9",
            "  kind a block \u0661 many 1",
            "  kind a block none many 1", "      yes", HEAD,
        ):
            self.assert_bad(1, text_of(HEAD, row))
            self.assert_bad(1, text_of(HEAD, row, "    take"))
            self.assert_bad(3, text_of(HEAD, B, "    drop", row))
        self.assert_bad(1, text_of(HEAD, "    take"))

    def test_names(self):
        self.assert_bad(3, text_of(HEAD, A, "    take", A, "    take"))
        self.assert_bad(5, text_of(HEAD, A, "    take", B, "    take", A))
        self.assert_bad(5, text_of(HEAD, A, "    take", B, "    take", B, "    take"))
        self.assertEqual(len(read_system(text_of(HEAD, A, "    take", B, "    take", C, "    take")).kinds), 3)

    def test_sessions(self):
        rows = [HEAD, A, "    take", B, "    take", C, "    take", "  kind d block 1 many 1", "    take"]
        self.assert_bad(7, text_of(*rows))
        self.assert_bad(7, text_of(*rows[:8]))
        twice, thrice = "  kind d block 1 many 2", "  kind d block 1 many 3"
        for rows, line in (
            ((HEAD, thrice, "    take", A), 3), ((HEAD, twice, "    take", A, "    take", B), 5),
            ((HEAD, A, "    take", thrice), 3), ((HEAD, A, "    take", B, "    take", twice), 5),
            ((HEAD, twice, "    take", "  kind e block 1 many 2"), 3),
        ):
            self.assert_bad(line, text_of(*rows))
            self.assert_bad(line, text_of(*rows, "    take"))
        self.assertEqual(read_system(text_of(HEAD, twice, "    take", A, "    take")).sessions, ("d", "d", "a"))

    def test_scripts_of_three_sessions(self):
        long, short = ["    drop"] * 5, ["    drop"] * 4
        # The fifth statement is wrong once there are three sessions.
        self.assert_bad(6, text_of(HEAD, "  kind a block 1 many 3", *long))
        self.assert_bad(8, text_of(HEAD, "  kind a block 1 many 2", "    drop", B, *long))
        self.assert_bad(10, text_of(HEAD, A, "    drop", B, "    drop", C, *long))
        # A third session is wrong once a script has five statements.
        self.assert_bad(7, text_of(HEAD, A, *long, "  kind b block 1 many 2", "    drop"))
        self.assert_bad(9, text_of(HEAD, A, *long, B, "    drop", C, "    drop"))
        self.assert_bad(9, text_of(HEAD, A, "    drop", B, *long, C, "    drop"))
        self.assert_bad(7, text_of(HEAD, "  kind a block 1 many 2", *long, B, "    drop"))
        for rows in (
            (HEAD, "  kind a block 1 many 3", *short), (HEAD, A, *short, B, *short, C, *short),
            (HEAD, A, *long, B, *long), (HEAD, "  kind a block 1 many 2", *long),
        ):
            self.assertEqual(write_system(read_system(text_of(*rows))), text_of(*rows))
        # The statements in branches count, too, but not the words of the branches.
        branches = ["    choose", "      yes", "        drop", "        drop", "      no", "        drop"]
        self.assert_bad(8, text_of(HEAD, "  kind a block 1 many 3", *branches, "        drop"))
        self.assert_bad(8, text_of(HEAD, "  kind a block 1 many 3", *branches, "    drop"))
        self.assert_bad(8, text_of(HEAD, A, *branches, "  kind b block 1 many 3"))
        self.assertEqual(len(read_system(text_of(HEAD, A, *branches, "  kind b block 1 many 2", "    drop")).kinds), 2)

    def test_blocks_and_window(self):
        narrow = "system ahead 0 window 2 crashes 0"
        wide = "  kind c block 3 many 1"
        self.assert_bad(1, text_of(narrow, wide, "    take"))
        self.assert_bad(3, text_of(narrow, A, "    take", wide, "    take"))
        read_system(text_of(narrow, A, "    take", "  kind c block 2 many 1", "    take"))
        read_system(text_of("system ahead 0 window 3 crashes 0", wide, "    take"))

    def test_statements(self):
        for row in (
            "", "    ", "take", "  take", "   take", "     take", "      take", "        take", "    take ",
            "    takes",
            "    Take", "    take a", "    tak", "    commit 1", "    lock", "    lock ", "    lock A", "    lock a b",
            "    lock  a", "    lock abcdefghi", "    lock a1", "    unlock", "    unlock \u00e9", "    unlock a ",
            "    choose a b", "    choose ", "    choose () ()", "    yes", "    no", "      yes", "      no",
            "    crash",
            "\ttake", "    take\t", "    take\r", "    take\x0b", "    kind b block 1 many 1", "    lock\ta",
            "    \u00a0take",
            "    take\u2028", "    end", "    stop",
        ):
            self.assert_bad(2, text_of(HEAD, A, row))
            self.assert_bad(3, text_of(HEAD, A, "    drop", row))
            self.assert_bad(3, text_of(HEAD, A, "    drop", row, "    drop"))
            self.assert_bad(6, text_of(HEAD, A, "    choose", "      yes", "      no", "    drop", row, "    drop"))

    def test_branches(self):
        start = [HEAD, A, "    choose"]
        for row in (
            "    yes", "        yes", "      no", "      Yes", "      yes ", "      yes no", "    drop",
            "        drop", B,
            "", "     yes", "       yes", "      take", "    choose",
        ):
            self.assert_bad(3, text_of(*start, row))
            self.assert_bad(3, text_of(*start, row, "      no"))
        start.append("      yes")
        for row in (
            "    no", "        no", "      yes", "      no ", "    drop", "      drop", "          drop", B, "",
            "        ",
            "        drop ", "        yes", "        lock A", "          yes",
        ):
            self.assert_bad(4, text_of(*start, row))
            self.assert_bad(5, text_of(*start, "        drop", row))
        start.append("      no")
        for row in (
            "      no", "      yes", "          drop", "      drop", "          no", "", "        drop ", "        no",
        ):
            self.assert_bad(5, text_of(*start, row))
            self.assert_bad(6, text_of(*start, "        drop", row))
        for rows in (
            (), ("        drop",), ("    drop",), ("        drop", "    drop"), ("        drop", B, "    drop"),
        ):
            read_system(text_of(*start, *rows))

    def test_inner_branches(self):
        start = [HEAD, A, "    choose", "      yes", "        choose"]
        for row in (
            "      no", "        no", "        drop", "            drop", "          no", "      yes", "    drop",
        ):
            self.assert_bad(5, text_of(*start, row))
        start.append("          yes")
        for row in ("      no", "        no", "        drop", "          yes", "    drop", B):
            self.assert_bad(6, text_of(*start, row))
        start.append("          no")
        for row in ("          no", "    drop", "      yes", "                drop", B):
            self.assert_bad(7, text_of(*start, row))
        for rows in (("      no",), ("            drop", "      no"), ("        drop", "      no", "    drop")):
            read_system(text_of(*start, *rows))

    def test_choose_inside_of_two_others(self):
        inner = [HEAD, A, "    choose", "      yes", "        choose", "          yes"]
        self.assert_bad(6, text_of(*inner, "            choose"))
        self.assert_bad(7, text_of(*inner, "            drop", "            choose"))
        self.assert_bad(7, text_of(*inner, "          no", "            choose"))
        rows = [HEAD, A, "    choose", "      yes", "      no", "        choose", "          yes", "            choose"]
        self.assert_bad(7, text_of(*rows))

    def test_ninth_statement(self):
        self.assert_bad(10, text_of(HEAD, A, *["    drop"] * 9))
        self.assert_bad(10, text_of(HEAD, A, *["    drop"] * 10))
        self.assert_bad(10, text_of(HEAD, A, *["    drop"] * 8, "    choose"))
        # As the eighth one a choose has empty branches.
        last = [HEAD, A, *["    drop"] * 7, "    choose"]
        read_system(text_of(*last, "      yes", "      no"))
        self.assert_bad(11, text_of(*last, "      yes", "        drop"))
        self.assert_bad(12, text_of(*last, "      yes", "      no", "        drop"))
        self.assert_bad(12, text_of(*last, "      yes", "      no", "    drop"))
        # Statements of an earlier kind do not count.
        read_system(text_of(HEAD, A, *["    drop"] * 8, B, *["    drop"] * 8))
        self.assert_bad(19, text_of(HEAD, A, *["    drop"] * 8, B, *["    drop"] * 9))

    def test_fourth_number(self):
        takes = ["    take"] * 3
        self.assert_bad(5, text_of(HEAD, A, *takes, "    take"))
        self.assert_bad(6, text_of(HEAD, A, *takes, "    drop", "    take"))
        for word in ("commit", "rollback", "leave"):
            read_system(text_of(HEAD, A, *takes, "    " + word, *takes))
            self.assert_bad(9, text_of(HEAD, A, *takes, "    " + word, *takes, "    take"))
        # The greater count of both branches counts.
        for yes, no in (("        commit", "        drop"), ("        drop", "        commit")):
            rows = [HEAD, A, *takes, "    choose", "      yes", yes, "      no", no]
            self.assert_bad(10, text_of(*rows, "    take"))
        rows = [HEAD, A, *takes, "    choose", "      yes", "        commit", "      no", "        leave", "    take"]
        read_system(text_of(*rows))
        self.assert_bad(8, text_of(HEAD, A, *takes, "    choose", "      yes", "      no", "        take"))
        # The branch no begins with the count before the choose.
        rows = [
            HEAD, A, *takes, "    choose", "      yes", "        commit", "        take", "      no", "        take",
        ]
        self.assert_bad(10, text_of(*rows))
        # Each script begins with no number.
        read_system(text_of(HEAD, A, *takes, B, *takes))

    def test_text_that_ends_too_early(self):
        self.assert_bad(0, "")
        self.assert_bad(1, text_of(HEAD))
        self.assert_bad(2, text_of(HEAD, A))
        self.assert_bad(4, text_of(HEAD, A, "    take", B))
        self.assert_bad(3, text_of(HEAD, A, "    choose"))
        self.assert_bad(4, text_of(HEAD, A, "    choose", "      yes"))
        self.assert_bad(5, text_of(HEAD, A, "    choose", "      yes", "        drop"))
        rows = (HEAD, A, "    choose", "      yes", "        choose", "          yes", "          no")
        self.assert_bad(7, text_of(*rows))

    def test_newlines(self):
        for text in (EXAMPLE_TEXT, NESTED_TEXT):
            last = text.count("\n") - 1
            # A line without a newline is wrong, even the last one.
            self.assert_bad(last, text[:-1])
            self.assert_bad(last + 1, text + "\n")
            self.assert_bad(last + 1, text + " ")
            self.assert_bad(last + 1, text + " \n")
            self.assert_bad(last + 1, text + "    drop")
            self.assert_bad(0, "\n" + text)
            self.assert_bad(0, " " + text)
            self.assert_bad(0, text.replace("\n", "\r\n"))
            self.assert_bad(0, text.replace("\n", "\r"))
            self.assert_bad(1, text.replace("\n", "\n\n"))
            self.assert_bad(0, text.replace("\n", " \n"))
            self.assert_bad(last + 1, text + text)
        for text in ("\n", "\n\n", " ", " \n"):
            self.assert_bad(0, text)

    def test_each_beginning(self):
        for system in MORE_SYSTEMS:
            text = write_system(system)
            for end in range(len(text)):
                beginning = text[:end]
                expected = system_of(beginning)
                if expected is None:
                    self.assert_bad(beginning.count("\n"), beginning)
                else:
                    self.assertEqual(read_system(beginning), expected)

    def check(self, text):
        """Checks what is read, or the number of the wrong line, by texts that go on from there."""
        expected = system_of(text)
        if expected is not None:
            self.assertEqual(read_system(text), expected)
            return
        with self.assertRaises(BadText) as caught:
            read_system(text)
        line = caught.exception.line
        rows = text.splitlines(keepends=True)
        self.assertTrue(0 <= line <= len(rows))
        self.assertTrue(goes_on("".join(rows[:line])), (line, text))
        if line < len(rows) and rows[line].endswith("\n"):
            self.assertFalse(goes_on("".join(rows[:line + 1])), (line, text))

    def test_changed_lines(self):
        texts = (EXAMPLE_TEXT, NESTED_TEXT, write_system(MORE_SYSTEMS[4]), write_system(MORE_SYSTEMS[7]))
        for text in texts:
            rows = text.splitlines(keepends=True)
            for index, row in enumerate(rows):
                others = [[], [row, row], [row.strip() + "\n"], ["  " + row], [row[2:]], ["    take\n", row]]
                for other in others:
                    self.check("".join(rows[:index] + other + rows[index + 1:]))

    def test_moved_lines(self):
        rows = NESTED_TEXT.splitlines(keepends=True)
        for first in range(0, len(rows), 2):
            for second in range(len(rows)):
                moved = rows[:first] + rows[first + 1:]
                self.check("".join(moved[:second] + [rows[first]] + moved[second:]))


class Schedules(TextCase):
    """Point 47."""

    def test_write(self):
        for schedule, text in (
            ([], ""),
            ([(0, 0)], "0"),
            ([(1, 0), (2, 0)], "1 2"),
            ([(0, 1), (1, 1), (2, 1)], "0n 1n 2n"),
            ([CRASH], "crash"),
            ([CRASH, (0, 0), CRASH, (2, 1), (0, 0)], "crash 0 crash 2n 0"),
        ):
            before = copy.copy(schedule)
            self.assertEqual(write_schedule(schedule), text)
            self.assertIs(type(write_schedule(schedule)), str)
            self.assertEqual(schedule, before)
            self.assertEqual(read_schedule(text), schedule)
            self.assertIs(type(read_schedule(text)), list)

    def test_kinds_of_steps(self):
        for step in read_schedule("0 1 2 0n 1n 2n crash"):
            self.assertIs(type(step), tuple)
            self.assertTrue(step == CRASH or all(type(part) is int for part in step))
        system = System(Kind("a", MAYBE, many=3), crashes=1)
        schedule = [(0, 0), (2, 0), (2, 1), (1, 0), (0, 0), (0, 0), CRASH, (1, 0)]
        self.assertEqual(vars(run(system, read_schedule(write_schedule(schedule)))), vars(run(system, schedule)))

    def test_back_and_forth(self):
        steps = [(0, 0), (1, 0), (2, 0), (0, 1), (1, 1), (2, 1), CRASH]
        for count in range(4):
            for schedule in itertools.product(steps, repeat=count):
                self.assertEqual(read_schedule(write_schedule(list(schedule))), list(schedule))
        self.assertEqual(len(read_schedule(write_schedule([(2, 1)] * 10000))), 10000)

    def test_results_are_new(self):
        read_schedule("0 1").clear()
        self.assertEqual(read_schedule("0 1"), [(0, 0), (1, 0)])

    def test_no_text(self):
        for text in without(str) + [b"0", [], ["0"], ("0",), [(0, 0)], True, None, 0]:
            self.assert_bad(-1, text, read_schedule)

    def test_wrong_words(self):
        for word in (
            "3", "9", "-1", "00", "01", "0N", "n", "n0", "0y", "0nn", "3n", "10", "Crash", "CRASH", "crashn", "crash0",
            "stop", "\u0660", "\u0661", "\u00b2", "\uff11", "1\u0301", "0\n", "\n", "\t", "0\t1", "\r0", "0\x0b",
            "\u00a0",
            "\u20281", "0,1", "(0,", "0.0", "+1", "0_0", "\ud800", "one", "0crash", "9" * 6000,
        ):
            self.assert_bad(0, word, read_schedule)
            self.assert_bad(2, "0 1n " + word, read_schedule)
            self.assert_bad(1, "crash " + word + " 0 " + word, read_schedule)

    def test_blanks(self):
        for text, index in (
            (" ", 0), ("  ", 0), (" 0", 0), ("0 ", 1), ("0  1", 1), ("0 1  2", 2), ("0 1 ", 2), ("crash  ", 1),
            ("0 1 2   ", 3),
            (" 3", 0), ("0  3", 1), ("3  0", 0),
        ):
            self.assert_bad(index, text, read_schedule)


if __name__ == "__main__":
    unittest.main()
