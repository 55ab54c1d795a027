"""Points 29 to 31, and the end of point 28: the greatest value, witnesses and shortest schedules."""

import inspect
import unittest

from model import fewest_of, greatest_of
from odd import NO_NUMBERS
from samples import (
    BIG, COMMIT, DROP, HUGE, LEAVE, LOCK, LOSER, MAYBE, MEASURES, PAIR, ROLLBACK, SHORT, SYSTEMS, TAKE, UNLOCK,
    VALUE_OF, one, two,
)
from takenahead.errors import BadLeast, NoMeasure, TooMany
from takenahead.measures import greatest, shortest, witness
from takenahead.schedules import run
from takenahead.states import reach
from takenahead.systems import Kind, System

WITHOUT_WINDOW = two(SHORT, SHORT, (2, 2))
WITH_WINDOW = two(SHORT, SHORT, (2, 2), window=4)
LONG_LOCKER = (LOCK, TAKE, COMMIT)

# A system, and the greatest value of each measure that follows from the words of the document by hand.
BY_HAND = (
    (one(DROP), ("none",), ("none",), ("none",)),
    # Its number is lost in the step that takes it, so it is never out at the end of a step.
    (one(TAKE), ("none",), ("none",), ("none",)),
    # Here 1 is out after the first step.
    (one(TAKE, block=2), ("none",), ("none",), ("most", 1)),
    (one(*SHORT), ("most", 0), ("none",), ("most", 1)),
    (one(*SHORT, block=2), ("most", 0), ("none",), ("most", 2)),
    # Three numbers are out before the commit.
    (one(TAKE, TAKE, TAKE, COMMIT), ("most", 0), ("none",), ("most", 3)),
    # 2 is lost each time: committed are 0, 1, 3, 4, 6, 7, ..
    (one(TAKE, TAKE, COMMIT, DROP, block=3), ("most", 1), ("none",), ("most", 3)),
    # The numbers of any number of transactions can be lost between two commits, by each way to lose them.
    (one(*MAYBE), ("endless",), ("none",), ("most", 1)),
    (one(TAKE, ("choose", (COMMIT,), (ROLLBACK,))), ("endless",), ("none",), ("most", 1)),
    (one(TAKE, ("choose", (COMMIT,), (LEAVE,))), ("endless",), ("none",), ("most", 1)),
    (one(TAKE, ("choose", (DROP,), ()), COMMIT, block=3), ("most", 2), ("none",), ("most", 3)),
    # The last commit before the crash is that of 2. Then 3 is taken, the noted height becomes 4 + 3, and the crash
    # loses 3 and skips 4, 5 and 6.
    (one(*SHORT, ahead=3, crashes=1), ("most", 4), ("none",), ("most", 1)),
    (one(*SHORT, ahead=3), ("most", 0), ("none",), ("most", 1)),
    (one(*SHORT, crashes=1), ("most", 1), ("none",), ("most", 1)),
    # Committed are 0 to 3, the first crash loses 4 and skips 5 to 8. Then one number less is skipped for each that is
    # taken, so the second crash loses or skips 9 to 12 in any case.
    (one(*SHORT, ahead=4, crashes=2), ("most", 9), ("none",), ("most", 1)),
    # The example of point 29.
    (WITHOUT_WINDOW, ("most", 0), ("endless",), ("endless",)),
    (WITH_WINDOW, ("most", 0), ("most", 3), ("most", 4)),
    # The block 1 and the window 2: 0 is taken by one session, then 1 by the other one.
    (two(SHORT, SHORT, window=2), ("most", 0), ("most", 1), ("most", 2)),
    (two(SHORT, SHORT, window=1), ("most", 0), ("none",), ("most", 1)),
    # With the lock nobody takes while the other one holds a number.
    (two(LONG_LOCKER, LONG_LOCKER), ("most", 0), ("none",), ("most", 1)),
    # The lock ends before the commit.
    (two((LOCK, TAKE, UNLOCK, COMMIT), (LOCK, TAKE, UNLOCK, COMMIT)), ("most", 0), ("endless",), ("endless",)),
    # The window stops the second take, and nothing else can be done.
    (one(TAKE, TAKE, COMMIT, window=1), ("none",), ("none",), ("most", 1)),
)


class MeasuresCase(unittest.TestCase):
    def assert_value(self, system, measure, least, schedule):
        """Checks a schedule by points 13 and 30."""
        self.assertIs(type(schedule), list)
        value = VALUE_OF[measure](run(system, schedule))
        self.assertIsNotNone(value)
        self.assertGreaterEqual(value, least)
        self.assertLessEqual(len(schedule), reach(system, measure) * (least + 2))

    def assert_wrong(self, error, name, value, call, *values):
        with self.assertRaises(error) as caught:
            call(*values)
        self.assertIs(type(caught.exception), error)
        self.assertIs(getattr(caught.exception, name), value)


class Interface(unittest.TestCase):
    def test_signatures(self):
        for call, text in (
            (greatest, "(system, measure)"),
            (witness, "(system, measure, least)"),
            (shortest, "(system, measure, least)"),
        ):
            self.assertEqual(str(inspect.signature(call)), text)
            self.assertEqual(call.__module__, "takenahead.measures")


class Greatest(MeasuresCase):
    """Point 29."""

    def test_examples(self):
        self.assertEqual(greatest(WITHOUT_WINDOW, "late"), ("endless",))
        self.assertEqual(greatest(WITH_WINDOW, "late"), ("most", 3))

    def test_by_hand(self):
        for number, (system, *expected) in enumerate(BY_HAND):
            for measure, value in zip(MEASURES, expected):
                with self.subTest(number, measure=measure):
                    self.assertEqual(greatest(system, measure), value)

    def test_kinds_of_values(self):
        for value in (greatest(WITH_WINDOW, "late"), greatest(WITHOUT_WINDOW, "late"), greatest(one(DROP), "gap")):
            self.assertIs(type(value), tuple)
        self.assertIs(type(greatest(WITH_WINDOW, "late")[1]), int)

    def test_all_roads(self):
        for number, system in enumerate(SYSTEMS):
            for measure in MEASURES:
                with self.subTest(number, measure=measure):
                    self.assertEqual(greatest(system, measure), greatest_of(system, measure))

    def test_order_of_the_kinds(self):
        for window in (3, 5, None):
            for measure in MEASURES:
                one_way = greatest(two(SHORT, LOSER, (1, 2), window=window), measure)
                other_way = greatest(two(LOSER, SHORT, (2, 1), window=window), measure)
                self.assertEqual(one_way, other_way)

    def test_gain_outside_of_useful_states(self):
        # While the first session holds its number, the height grows without an end. But the number is lost.
        system = two((TAKE, ("choose", (), ())), SHORT)
        self.assertEqual(greatest(system, "late"), ("none",))
        self.assertEqual(greatest(system, "spread"), ("endless",))


class Witness(MeasuresCase):
    """Point 30."""

    def test_each_least(self):
        for number, system in enumerate(SYSTEMS):
            for measure in MEASURES:
                value = greatest(system, measure)
                endless = value == ("endless",)
                most = 200 if endless else value[1] if value[0] == "most" else -1
                with self.subTest(number, measure=measure):
                    for least in {0, 1, 2, most - 1, most, 200}:
                        schedule = witness(system, measure, least) if least >= 0 else None
                        if 0 <= least <= most:
                            self.assert_value(system, measure, least, schedule)
                        else:
                            self.assertIsNone(schedule)
                    if not endless:
                        self.assertIsNone(witness(system, measure, most + 1))

    def test_by_hand(self):
        for number, (system, *expected) in enumerate(BY_HAND):
            for measure, value in zip(MEASURES, expected):
                with self.subTest(number, measure=measure):
                    if value == ("endless",):
                        for least in (0, 21, 200):
                            self.assert_value(system, measure, least, witness(system, measure, least))
                    elif value == ("none",):
                        for least in (0, 1, 200):
                            self.assertIsNone(witness(system, measure, least))
                    else:
                        self.assert_value(system, measure, value[1], witness(system, measure, value[1]))
                        self.assert_value(system, measure, 0, witness(system, measure, 0))
                        self.assertIsNone(witness(system, measure, value[1] + 1))

    def test_results_are_new(self):
        first = witness(WITH_WINDOW, "late", 3)
        first.clear()
        self.assert_value(WITH_WINDOW, "late", 3, witness(WITH_WINDOW, "late", 3))


class Shortest(MeasuresCase):
    """Point 31."""

    def test_examples(self):
        # One session takes 0, the other one takes and commits 2 and 3, then the first one commits 0.
        schedule = shortest(WITH_WINDOW, "late", 3)
        self.assert_value(WITH_WINDOW, "late", 3, schedule)
        self.assertEqual(len(schedule), 6)
        # In the other order of steps 2 is taken before 0 is committed.
        self.assertEqual(len(shortest(WITH_WINDOW, "late", 2)), 4)
        self.assertEqual(len(shortest(WITH_WINDOW, "late", 0)), 4)
        self.assertIsNone(shortest(WITH_WINDOW, "late", 4))
        self.assertEqual(shortest(one(*SHORT), "spread", 0), [(0, 0)])
        self.assertEqual(shortest(one(*SHORT), "spread", 1), [(0, 0)])
        self.assertIsNone(shortest(one(*SHORT), "spread", 2))
        self.assertEqual(shortest(one(*SHORT), "gap", 0), [(0, 0)] * 4)
        system = one(*SHORT, ahead=2, crashes=1)
        self.assertEqual(shortest(system, "gap", 1), [(0, 0), (0, 0), ("crash",), (0, 0), (0, 0)])

    def test_answers(self):
        # 0 is committed, then 1 and 2 are lost, then 3 is committed.
        yes, no = [(0, 0), (0, 0), (0, 0)], [(0, 0), (0, 1)]
        self.assertEqual(shortest(one(*MAYBE), "gap", 2), yes + no + no + yes)

    def test_all_short_schedules(self):
        for number, system in enumerate(SYSTEMS):
            longest = 12 if len(system.sessions) == 1 else 8
            found = fewest_of(system, longest)
            for measure in MEASURES:
                edges = {value + more for value in found[measure] for more in (0, 1)}
                for least in {0, 20} | {value for value in edges if value <= 20}:
                    schedule = shortest(system, measure, least)
                    lengths = [length for value, length in found[measure].items() if value >= least]
                    with self.subTest(number, measure=measure, least=least):
                        if schedule is None:
                            self.assertEqual(lengths, [])
                            value = greatest(system, measure)
                            self.assertTrue(value == ("none",) or value[0] == "most" and value[1] < least)
                        else:
                            self.assert_value(system, measure, least, schedule)
                            length = len(schedule)
                            self.assertEqual(min(lengths, default=longest + 1), min(length, longest + 1))

    def test_results_are_new(self):
        shortest(WITH_WINDOW, "late", 3).clear()
        self.assertEqual(len(shortest(WITH_WINDOW, "late", 3)), 6)


class Errors(MeasuresCase):
    def test_bad_least(self):
        for call, most in ((witness, 200), (shortest, 20)):
            for least in list(NO_NUMBERS) + [-1, most + 1, -2, HUGE, -HUGE, "20", True, None]:
                self.assert_wrong(BadLeast, "least", least, call, WITH_WINDOW, "late", least)
            for least in (0, most):
                call(WITH_WINDOW, "late", least)

    def test_no_measure_first(self):
        for measure in list(NO_NUMBERS) + ["", "Late", "gaps", b"gap", ("gap",)]:
            for system in (WITH_WINDOW, BIG):
                self.assert_wrong(NoMeasure, "measure", measure, greatest, system, measure)
                for call in (witness, shortest):
                    for least in (0, -1, None):
                        self.assert_wrong(NoMeasure, "measure", measure, call, system, measure, least)

    def test_too_many(self):
        for measure in MEASURES:
            with self.assertRaises(TooMany) as caught:
                greatest(BIG, measure)
            self.assertEqual(caught.exception.limit, 2000)
            for call in (witness, shortest):
                for least in (0, 20):
                    with self.assertRaises(TooMany) as caught:
                        call(BIG, measure, least)
                    self.assertEqual(caught.exception.limit, 2000)
                for least in (-1, 201, None, True, "1"):
                    self.assert_wrong(BadLeast, "least", least, call, BIG, measure, least)

    def test_edge_of_too_many(self):
        locker = (LOCK, TAKE, COMMIT)
        system = two(MAYBE, locker, (1, 3), window=7, ahead=1)
        self.assertEqual(reach(system, "gap"), 2000)
        self.assertEqual(greatest(system, "gap"), ("endless",))
        self.assert_value(system, "gap", 200, witness(system, "gap", 200))
        # Has 2001 states for the spread and for the gap, but fewer for the lateness.
        system = two(PAIR, (LOCK, TAKE, UNLOCK, COMMIT), (1, 3), crashes=1)
        for call, values in ((greatest, ()), (witness, (0,)), (shortest, (0,))):
            with self.assertRaises(TooMany):
                call(system, "gap", *values)
            call(system, "late", *values)

    def test_system_stays(self):
        system = System(Kind("web", MAYBE, many=2), window=2)
        other = System(Kind("web", MAYBE, many=2), window=2)
        for measure in MEASURES:
            greatest(system, measure)
            witness(system, measure, 1)
            shortest(system, measure, 1)
        self.assertEqual(system, other)


if __name__ == "__main__":
    unittest.main()
