"""Points 19 to 26 and 28: measures, states and steps. Whole systems are compared in test_roads.py."""

import inspect
import unittest
from unittest import mock

from odd import NO_NUMBERS
from takenahead import states
from takenahead.errors import NoMeasure, TooMany
from takenahead.states import reach, reached, start, steps
from takenahead.systems import Kind, System

TAKE, COMMIT, ROLLBACK, DROP, LEAVE = ("take",), ("commit",), ("rollback",), ("drop",), ("leave",)
LOCK, UNLOCK = ("lock", "a"), ("unlock", "a")
CRASH, STOP = ("crash",), ("stop",)
NONE = (None, None)
FRESH = ((0,), (), (), ())
MEASURES = ("gap", "late", "spread")
NO_MEASURES = list(NO_NUMBERS) + [
    "Gap", "gaps", "lateness", "", "gap ", "\u00e9", b"gap", b"spread", ("gap",), ["gap"], {"gap": 1}, 0, 1, "none",
]

WEB = System(Kind("web", (TAKE, COMMIT), block=2))


def one(*script, block=1, **values):
    return System(Kind("web", script, block=block), **values)


def two(first, second, blocks=(1, 1), **values):
    return System(Kind("one", first, block=blocks[0]), Kind("two", second, block=blocks[1]), **values)


def state_of(x, y, *sessions, reserve=0, crashes=0):
    return ((x, y), reserve, crashes, sessions)


def at(place, transaction=(), store=(), locks=()):
    """The item of a session that is at a place outside of all branches."""
    return ((place,), locks, transaction, store)


def marked(items):
    """The offsets with the gain and the status, of each item of one block that is handed out."""
    return {offsets: (gain, result[0]) for step, offsets, result, gain in items}


def steps_only(items):
    return [item[0] for item in items]


class StateCase(unittest.TestCase):
    def assert_steps(self, system, measure, state, expected):
        """Compares the steps of a state, which is checked to be one that can be reached."""
        self.assertIn(state, list(reached(system, measure)))
        items = steps(system, measure, state)
        self.assertIs(type(items), list)
        self.assertEqual(items, expected)


class Interface(unittest.TestCase):
    def test_signatures(self):
        for call, text in (
            (start, "(system, measure)"),
            (steps, "(system, measure, state)"),
            (reached, "(system, measure)"),
            (reach, "(system, measure)"),
        ):
            self.assertEqual(str(inspect.signature(call)), text)
            self.assertEqual(call.__module__, "takenahead.states")

    def test_generator(self):
        self.assertTrue(inspect.isgeneratorfunction(reached))


class Measures(unittest.TestCase):
    """Point 19."""

    def assert_no_measure(self, measure, call, *values):
        with self.assertRaises(NoMeasure) as caught:
            call(*values)
        self.assertIs(caught.exception.measure, measure)

    def test_measures(self):
        for measure in MEASURES:
            start(WEB, measure)
            steps(WEB, measure, start(WEB, measure))
            self.assertGreater(reach(WEB, measure), 1)

    def test_no_measure(self):
        for measure in NO_MEASURES:
            self.assert_no_measure(measure, start, WEB, measure)
            self.assert_no_measure(measure, steps, WEB, measure, start(WEB, "gap"))
            self.assert_no_measure(measure, steps, WEB, measure, ("end",))
            self.assert_no_measure(measure, reach, WEB, measure)
            self.assert_no_measure(measure, lambda: list(reached(WEB, measure)))
            self.assert_no_measure(measure, lambda: next(reached(WEB, measure)))

    def test_before_any_other_error(self):
        big = System(Kind("web", (TAKE, TAKE, TAKE, COMMIT), block=3, many=3))
        for measure in ("none", None, []):
            self.assert_no_measure(measure, reach, big, measure)
            self.assert_no_measure(measure, lambda: list(reached(big, measure)))
        with self.assertRaises(TooMany):
            reach(big, "gap")

    def test_computed_string(self):
        self.assertEqual(reach(WEB, "".join(["ga", "p"])), reach(WEB, "gap"))


class Start(unittest.TestCase):
    """Point 21."""

    def test_start(self):
        for measure in MEASURES:
            self.assertEqual(start(WEB, measure), (("no", "no"), 0, 0, (FRESH,)))
            system = System(
                Kind("a", (TAKE, COMMIT), block=2, many=2), Kind("b", (DROP,)), ahead=3, window=5, crashes=2,
            )
            self.assertEqual(start(system, measure), (("no", "no"), 3, 2, (FRESH, FRESH, FRESH)))

    def test_end(self):
        for measure in MEASURES:
            self.assertEqual(steps(WEB, measure, ("end",)), [])
            # Here the end cannot be reached.
            system = one(DROP)
            self.assertNotIn(("end",), list(reached(system, measure)))
            self.assertEqual(steps(system, measure, ("end",)), [])


class Example(StateCase):
    def test_steps_of_the_start(self):
        """The example of point 28."""
        self.assert_steps(WEB, "spread", (("no", "no"), 0, 0, (((0,), (), (), ()),)), [
            ((0, 0), (None, None), (("no", "no"), 0, 0, (((1,), (), ((0, 0),), ((0, 0),)),)), 0),
            ((0, 0), (1, None), (("out", "no"), 0, 0, (((1,), (), ((0, 0),), ((0, 1),)),)), 1),
            ((0, 0), (0, None), (("out", "no"), 0, 0, (((1,), (), ((0, 1),), ((0, 2),)),)), 2),
        ])

    def test_results_are_new(self):
        items = steps(WEB, "spread", start(WEB, "spread"))
        items.pop()
        self.assertEqual(len(steps(WEB, "spread", start(WEB, "spread"))), 3)


class Table(StateCase):
    """Point 23, row by row: the offsets, the gains and the status after the step."""

    def assert_rows(self, measure, block, state, expected, script=(TAKE, COMMIT)):
        self.assertEqual(marked(steps(one(*script, block=block), measure, state)), expected)

    def test_nothing_marked(self):
        no, a, both = ("no", "no"), ("out", "no"), ("out", "out")
        beginning = state_of("no", "no", FRESH)
        for block, late, gap, spread in (
            (
                1,
                {NONE: (0, no), (0, None): (0, a)},
                {NONE: (0, no), (0, None): (0, a)},
                {NONE: (0, no), (0, None): (1, a)},
            ),
            (
                2,
                {NONE: (0, no), (0, None): (1, a), (1, None): (0, a), (0, 1): (1, both)},
                {NONE: (0, no), (0, None): (1, a), (1, None): (0, a), (0, 1): (0, both)},
                {NONE: (0, no), (0, None): (2, a), (1, None): (1, a)},
            ),
            (
                3,
                {
                    NONE: (0, no), (0, None): (2, a), (1, None): (1, a), (2, None): (0, a),
                    (0, 1): (1, both), (0, 2): (2, both), (1, 2): (1, both),
                },
                {
                    NONE: (0, no), (0, None): (2, a), (1, None): (1, a), (2, None): (0, a),
                    (0, 1): (0, both), (0, 2): (1, both), (1, 2): (0, both),
                },
                {NONE: (0, no), (0, None): (3, a), (1, None): (2, a), (2, None): (1, a)},
            ),
        ):
            self.assert_rows("late", block, beginning, late)
            self.assert_rows("gap", block, beginning, gap)
            self.assert_rows("spread", block, beginning, spread)

    def test_a_is_out(self):
        # a is in the transaction, and the store is empty.
        script = (TAKE, TAKE, TAKE, COMMIT)
        state = state_of("out", "no", at(1, ((0, 1),)))
        a, both = ("out", "no"), ("out", "out")
        for block in (1, 2, 3):
            late = {NONE: (block, a)}
            gap = {NONE: (block, a)}
            for j in range(block):
                late[(None, j)] = (j + 1, both)
                gap[(None, j)] = (j, both)
            self.assert_rows("late", block, state, late, script)
            self.assert_rows("gap", block, state, gap, script)
            items = [item for item in steps(one(*script, block=block), "spread", state) if item[0] != STOP]
            self.assertEqual(marked(items), {NONE: (block, a)})

    def test_a_is_in(self):
        state = state_of("in", "no", FRESH)
        for block in (1, 2, 3):
            gap = {NONE: (block, ("in", "no"))}
            for j in range(block):
                gap[(None, j)] = (j, ("in", "out"))
            self.assert_rows("gap", block, state, gap)

    def test_b_is_marked(self):
        script = (TAKE, TAKE, TAKE, COMMIT)
        for status, transaction in ((("out", "out"), ((0, 1), (0, 3))), (("in", "out"), ((0, 3),)), (("in", "in"), ())):
            state = (status, 0, 0, (at(2, transaction),))
            for block in (1, 2, 3):
                for measure in ("late", "gap"):
                    items = [item for item in steps(one(*script, block=block), measure, state) if item[0] != STOP]
                    self.assertEqual(marked(items), {NONE: (0, status)})

    def test_other_steps_have_no_gain(self):
        for statement in (COMMIT, ROLLBACK, DROP, LEAVE, LOCK, UNLOCK, ("choose", (DROP,), ())):
            system = one(statement, DROP, ahead=3)
            for measure in MEASURES:
                for step, offsets, result, gain in steps(system, measure, start(system, measure)):
                    self.assertEqual((offsets, gain), (NONE, 0))

    def test_take_from_the_store(self):
        state = state_of("out", "no", at(0, (), ((0, 1), (0, 2))))
        system = one(TAKE, TAKE, COMMIT, block=3)
        for measure in ("late", "gap"):
            self.assertEqual(steps(system, measure, state), [
                ((0, 0), NONE, state_of("out", "no", at(1, ((0, 1),), ((0, 2),))), 0),
            ])


class Classes(StateCase):
    """Point 20: the described numbers."""

    def results(self, system, measure, state):
        return {item[1]: item[2][3] for item in steps(system, measure, state) if item[0] == (0, 0)}

    def test_new_block(self):
        found = self.results(one(TAKE, COMMIT, block=3), "gap", state_of("no", "no", FRESH))
        for offsets, transaction, store in (
            (NONE, 0, (0, 0)), ((0, None), 1, (2, 2)), ((1, None), 0, (1, 2)), ((2, None), 0, (0, 1)),
            ((0, 1), 1, (3, 4)), ((0, 2), 1, (2, 3)), ((1, 2), 0, (1, 3)),
        ):
            expected = at(1, ((0, transaction),), tuple((0, each) for each in store))
            self.assertEqual(found[offsets], (expected,))

    def test_block_behind_a(self):
        found = self.results(one(TAKE, COMMIT, block=3), "gap", state_of("in", "no", FRESH))
        for offsets, transaction, store in (
            (NONE, 2, (2, 2)), ((None, 0), 3, (4, 4)), ((None, 1), 2, (3, 4)), ((None, 2), 2, (2, 3)),
        ):
            expected = at(1, ((0, transaction),), tuple((0, each) for each in store))
            self.assertEqual(found[offsets], (expected,))

    def test_block_behind_b(self):
        found = self.results(one(TAKE, COMMIT, block=3), "gap", state_of("in", "in", FRESH))
        self.assertEqual(found, {NONE: (at(1, ((0, 4),), ((0, 4), (0, 4))),)})

    def test_numbers_that_are_out_stay(self):
        # Class 0 stays below a, class 2 stays between a and b.
        system = two((TAKE, COMMIT), (TAKE, TAKE, COMMIT), (2, 2))
        state = state_of("out", "no", FRESH, at(1, ((0, 0),), ((0, 1),)))
        self.assertEqual(
            self.results(system, "gap", state)[(None, 0)],
            (at(1, ((0, 3),), ((0, 4),)), at(1, ((0, 0),), ((0, 1),))),
        )
        state = state_of("out", "no", FRESH, at(1, ((0, 1),), ((0, 2),)))
        self.assertEqual(
            self.results(system, "gap", state)[(None, 1)],
            (at(1, ((0, 2),), ((0, 3),)), at(1, ((0, 1),), ((0, 2),))),
        )
        state = state_of("no", "no", FRESH, at(1, ((0, 0),), ((0, 0),)))
        self.assertEqual(
            self.results(system, "gap", state)[(0, None)],
            (at(1, ((0, 1),), ((0, 2),)), at(1, ((0, 0),), ((0, 0),))),
        )

    def test_distances_with_a_window(self):
        system = two((TAKE, COMMIT), (TAKE, TAKE, TAKE), (2, 3), window=8)
        self.assertEqual(
            self.results(system, "late", start(system, "late"))[(0, 1)],
            (at(1, ((2, 1),), ((1, 3),)), FRESH),
        )
        state = state_of("out", "no", FRESH, at(1, ((3, 0),), ((1, 2), (2, 1))))
        self.assertEqual(
            self.results(system, "late", state),
            {
                NONE: (at(1, ((2, 2),), ((1, 2),)), at(1, ((5, 0),), ((3, 2), (4, 1)))),
                (None, 0): (at(1, ((2, 3),), ((1, 4),)), at(1, ((5, 0),), ((3, 2), (4, 1)))),
                (None, 1): (at(1, ((2, 2),), ((1, 3),)), at(1, ((5, 0),), ((3, 2), (4, 1)))),
            },
        )

    def test_own_numbers_grow_with_a_window(self):
        system = one(TAKE, TAKE, TAKE, COMMIT, window=3)
        state = state_of("no", "no", at(1, ((1, 0),)))
        self.assertEqual(
            self.results(system, "spread", state),
            {NONE: (at(2, ((1, 0), (2, 0))),), (0, None): (at(2, ((1, 1), (2, 0))),)},
        )

    def test_least_of_a_store_with_a_window(self):
        # The ascending tuple has the least number last.
        system = one(TAKE, TAKE, TAKE, COMMIT, block=3, window=3)
        state = state_of("out", "no", at(1, ((3, 0),), ((1, 2), (2, 1))))
        expected = state_of("out", "no", at(2, ((2, 1), (3, 0)), ((1, 2),)))
        self.assert_steps(system, "late", state, [((0, 0), NONE, expected, 0)])

    def test_least_of_a_store_without_a_window(self):
        system = one(TAKE, TAKE, TAKE, COMMIT, block=3)
        state = state_of("out", "no", at(1, ((0, 0),), ((0, 1), (0, 2))))
        expected = state_of("out", "no", at(2, ((0, 0), (0, 1)), ((0, 2),)))
        self.assert_steps(system, "late", state, [((0, 0), NONE, expected, 0)])

    def test_reserve(self):
        for ahead, block, expected in ((0, 2, [0, 0, 0, 0]), (3, 2, [3, 1, 3, 1]), (4, 1, [4, 3, 2, 1, 0, 4, 3])):
            system = one(TAKE, DROP, block=block, ahead=ahead)
            state = start(system, "spread")
            found = []
            for reserve in expected:
                found.append(state[1])
                for times in range(2):
                    state = steps(system, "spread", state)[0][2]
            self.assertEqual(found, expected)

    def test_locks_ascend(self):
        system = one(("lock", "b"), ("lock", "a"), ("lock", "b"), ("unlock", "b"), DROP)
        state = start(system, "gap")
        found = []
        for times in range(5):
            state = steps(system, "gap", state)[0][2]
            found.append(state[3][0][1])
        self.assertEqual(found, [("b",), ("a", "b"), ("a", "b"), ("a",), ()])


class Order(StateCase):
    """Point 22: the order of the list."""

    def test_steps_ascend(self):
        script = (("choose", (TAKE,), (DROP,)), COMMIT)
        system = two(script, script, crashes=1)
        self.assert_steps(system, "gap", start(system, "gap"), [
            ((0, 0), NONE, state_of("no", "no", ((0, 0, 0), (), (), ()), FRESH, crashes=1), 0),
            ((0, 1), NONE, state_of("no", "no", ((0, 1, 0), (), (), ()), FRESH, crashes=1), 0),
            ((1, 0), NONE, state_of("no", "no", FRESH, ((0, 0, 0), (), (), ()), crashes=1), 0),
            ((1, 1), NONE, state_of("no", "no", FRESH, ((0, 1, 0), (), (), ()), crashes=1), 0),
            (CRASH, NONE, state_of("no", "no", FRESH, FRESH), 0),
        ])

    def test_crash_before_stop(self):
        system = one(TAKE, COMMIT, crashes=1)
        state = state_of("in", "in", FRESH, crashes=1)
        self.assert_steps(system, "gap", state, [
            ((0, 0), NONE, state_of("in", "in", at(1, ((0, 4),)), crashes=1), 0),
            (CRASH, NONE, state_of("in", "in", FRESH), 0),
            (STOP, NONE, ("end",), 0),
        ])

    def test_results_ascend(self):
        for system in (
            one(TAKE, TAKE, COMMIT, block=3), one(TAKE, COMMIT, block=3, window=3, ahead=2, crashes=1),
            two((TAKE, COMMIT), (TAKE, COMMIT, DROP), (3, 2), window=3),
        ):
            for measure in MEASURES:
                for state in reached(system, measure):
                    items = steps(system, measure, state)
                    rank = {CRASH: 1, STOP: 2}
                    keys = [(rank.get(item[0], 0), item[0], item[2]) for item in items]
                    self.assertEqual(keys, sorted(keys))
                    self.assertEqual(len(keys), len(set(keys)))

    def test_waiting_sessions(self):
        system = two((LOCK, DROP), (LOCK, DROP))
        state = state_of("no", "no", at(1, locks=("a",)), FRESH)
        self.assert_steps(system, "gap", state, [((0, 0), NONE, state_of("no", "no", FRESH, FRESH), 0)])
        # The second session would hand out a block, but 1 + 3 - 0 > 3.
        system = two((TAKE, COMMIT), (TAKE, COMMIT), (1, 3), window=3)
        state = state_of("no", "no", at(1, ((1, 0),)), FRESH)
        self.assert_steps(system, "late", state, [((0, 0), NONE, state_of("no", "no", FRESH, FRESH), 0)])
        # With the window 4 it does not wait.
        self.assertIn((1, 0), steps_only(steps(system.with_values(window=4), "late", state)))

    def test_all_sessions_wait(self):
        system = one(TAKE, TAKE, COMMIT, window=1)
        self.assert_steps(system, "gap", state_of("no", "no", at(1, ((1, 0),))), [])
        state = state_of("out", "no", at(1, ((1, 1),)))
        self.assert_steps(system, "spread", state, [(STOP, NONE, ("end",), 0)])


class LeftOut(StateCase):
    """Point 24."""

    def assert_listed(self, script, state, listed, **values):
        """Tells for each measure whether the step (0, 0) is listed."""
        system = one(*script, **values)
        for measure, expected in zip(MEASURES, listed):
            with self.subTest(measure):
                self.assertEqual((0, 0) in steps_only(steps(system, measure, state)), expected)

    def test_loss_of_a(self):
        inside = state_of("out", "no", at(1, ((0, 1),)))
        outside = state_of("out", "no", at(1, ((0, 0),), ((0, 1),)))
        for statement, place in ((ROLLBACK, inside), (DROP, outside), (LEAVE, inside), (LEAVE, outside)):
            self.assert_listed((TAKE, statement, DROP), place, (False, False, False), block=2)
        for statement, place in ((ROLLBACK, outside), (DROP, inside)):
            self.assert_listed((TAKE, statement, DROP), place, (True, True, True), block=2)

    def test_loss_of_b(self):
        inside = state_of("in", "out", at(1, ((0, 3),), ((0, 4),)))
        outside = state_of("in", "out", at(1, ((0, 2),), ((0, 3),)))
        for statement, place in ((ROLLBACK, inside), (DROP, outside), (LEAVE, inside), (LEAVE, outside)):
            self.assertNotIn((0, 0), steps_only(steps(one(TAKE, statement, DROP, block=2), "gap", place)))
        for statement, place in ((ROLLBACK, outside), (DROP, inside)):
            self.assertIn((0, 0), steps_only(steps(one(TAKE, statement, DROP, block=2), "gap", place)))

    def test_end_of_the_script(self):
        inside = state_of("out", "no", at(1, ((0, 1),)))
        outside = state_of("out", "no", at(1, ((0, 0),), ((0, 1),)))
        for statement in (DROP, LOCK, UNLOCK, ("choose", (), ())):
            self.assert_listed((TAKE, statement), inside, (False, False, False), block=2)
        for statement in (LOCK, UNLOCK, ("choose", (), ())):
            self.assert_listed((TAKE, statement), outside, (True, True, True), block=2)
        # A commit at the end of the script is earlier than the loss.
        self.assert_listed((TAKE, COMMIT), inside, (True, False, False), block=2)

    def test_one_answer_only(self):
        system = one(TAKE, ("choose", (COMMIT,), ()))
        state = state_of("out", "no", at(1, ((0, 1),)))
        for measure, behind in (("gap", []), ("late", []), ("spread", [STOP])):
            self.assertEqual(steps_only(steps(system, measure, state)), [(0, 0)] + behind)

    def test_lost_in_the_step_that_marks_it(self):
        system = one(TAKE, block=2)
        beginning = state_of("no", "no", FRESH)
        # The number 0 is lost, so neither a nor b is marked there.
        expected = [
            ((0, 0), NONE, state_of("no", "no", at(0, (), ((0, 0),))), 0),
            ((0, 0), (1, None), state_of("out", "no", at(0, (), ((0, 1),))), 0),
        ]
        for measure in ("gap", "late"):
            self.assert_steps(system, measure, beginning, expected)
        expected[1] = expected[1][:3] + (1,)
        self.assert_steps(system, "spread", beginning, expected)

    def test_commit_of_a(self):
        script = (TAKE, COMMIT, DROP)
        self.assert_listed(script, state_of("out", "no", at(1, ((0, 1),))), (True, False, False))
        for y, listed in (("no", False), ("out", False), ("in", True)):
            state = state_of("out", y, at(1, ((0, 1),)))
            self.assertEqual((0, 0) in steps_only(steps(one(*script), "late", state)), listed)
            self.assertIn((0, 0), steps_only(steps(one(*script), "gap", state)))

    def test_commit_of_a_and_b_together(self):
        system = one(TAKE, TAKE, COMMIT, DROP)
        state = state_of("out", "out", at(2, ((0, 1), (0, 3))))
        # b is committed by the same commit, not by an earlier one.
        self.assert_steps(system, "late", state, [])
        self.assert_steps(system, "gap", state, [((0, 0), NONE, state_of("in", "in", at(3)), 0)])

    def test_commit_between(self):
        script = (TAKE, COMMIT, DROP)
        between = at(1, ((0, 2),))
        for status in (("in", "no"), ("in", "out"), ("in", "in")):
            self.assertNotIn((0, 0), steps_only(steps(one(*script), "gap", (status, 0, 0, (between,)))))
        self.assert_listed(script, state_of("out", "no", between), (False, True, True))
        self.assertIn((0, 0), steps_only(steps(one(*script), "late", state_of("out", "out", between))))

    def test_commit_elsewhere(self):
        for side in (0, 4):
            state = state_of("in", "in", at(1, ((0, side),)))
            self.assertIn((0, 0), steps_only(steps(one(TAKE, COMMIT, DROP), "gap", state)))

    def test_status_after_a_commit(self):
        script = (TAKE, TAKE, COMMIT, DROP)
        for measure, status, sides, expected in (
            ("gap", ("out", "no"), (0, 1), ("in", "no")),
            ("gap", ("out", "out"), (1,), ("in", "out")),
            ("gap", ("out", "out"), (3,), ("out", "in")),
            ("gap", ("in", "out"), (3, 4), ("in", "in")),
            ("gap", ("out", "in"), (1,), ("in", "in")),
            ("gap", ("out", "out"), (0,), ("out", "out")),
            ("late", ("out", "out"), (3,), ("out", "in")),
            ("late", ("out", "out"), (2, 3), ("out", "in")),
            ("late", ("out", "in"), (1,), ("in", "in")),
            ("late", ("out", "no"), (2,), ("out", "no")),
            ("spread", ("out", "no"), (2,), ("out", "no")),
        ):
            state = (status, 0, 0, (at(2, tuple((0, side) for side in sides)),))
            items = [item for item in steps(one(*script), measure, state) if item[0] == (0, 0)]
            self.assertEqual(items, [((0, 0), NONE, (expected, 0, 0, (at(3),)), 0)])

    def test_status_that_occurs(self):
        system = two((TAKE, COMMIT), (TAKE, TAKE, COMMIT), (2, 1), window=4, crashes=1)
        found = {measure: {state[0] for state in reached(system, measure)} for measure in MEASURES}
        both = {("no", "no"), ("out", "no"), ("out", "out"), ("out", "in"), ("in", "in"), "end"}
        self.assertEqual(found["late"], both)
        self.assertEqual(found["gap"], both | {("in", "no"), ("in", "out")})
        self.assertEqual(found["spread"], {("no", "no"), ("out", "no"), "end"})


class Crashes(StateCase):
    """Point 25."""

    def assert_crash(self, measure, state, result, gain, **values):
        system = two((LOCK, TAKE, COMMIT), (TAKE, COMMIT), (2, 2), **values)
        expected = [] if result is None else [(CRASH, NONE, result, gain)]
        found = [item for item in steps(system, measure, state) if item[0] == CRASH]
        self.assertEqual(found, expected)

    def test_result(self):
        sessions = (at(2, ((0, 0),), ((0, 0),), ("a",)), at(1, ((0, 0),)))
        for measure in MEASURES:
            state = state_of("no", "no", *sessions, reserve=1, crashes=2)
            result = state_of("no", "no", FRESH, FRESH, reserve=3, crashes=1)
            self.assert_crash(measure, state, result, 0, ahead=3, crashes=2)

    def test_gain(self):
        between = at(1, ((0, 2),))
        for reserve in (0, 1, 3):
            for status, gain in ((("in", "no"), reserve), (("in", "in"), 0), (("no", "no"), 0)):
                state = (status, reserve, 1, (FRESH, between if status == ("in", "no") else FRESH))
                result = (status, 3, 0, (FRESH, FRESH))
                self.assert_crash("gap", state, result, gain, ahead=3, crashes=1)
        state = state_of("in", "in", FRESH, FRESH, reserve=2, crashes=1)
        result = state_of("in", "in", FRESH, FRESH, reserve=3)
        self.assert_crash("late", state, result, 0, ahead=3, crashes=1)
        state = state_of("no", "no", FRESH, FRESH, reserve=2, crashes=1)
        result = state_of("no", "no", FRESH, FRESH, reserve=3)
        self.assert_crash("spread", state, result, 0, ahead=3, crashes=1)

    def test_no_crash_left(self):
        for measure in MEASURES:
            self.assert_crash(measure, state_of("no", "no", FRESH, FRESH, reserve=3), None, 0, ahead=3, crashes=1)

    def test_a_or_b_is_out(self):
        for measure, status in (
            ("spread", ("out", "no")), ("late", ("out", "no")), ("late", ("out", "out")), ("late", ("out", "in")),
            ("gap", ("out", "no")), ("gap", ("in", "out")), ("gap", ("out", "in")), ("gap", ("out", "out")),
        ):
            self.assert_crash(measure, (status, 1, 1, (FRESH, FRESH)), None, 0, ahead=3, crashes=1)

    def test_other_numbers_are_out(self):
        # What lies between a and b is lost by the crash, then they are a pair.
        state = state_of("in", "in", at(2, ((0, 2),), (), ("a",)), FRESH, crashes=1)
        self.assert_crash("gap", state, state_of("in", "in", FRESH, FRESH), 0, crashes=1)


class Stops(StateCase):
    """Point 26."""

    def assert_stop(self, measure, status, sessions, listed):
        system = two((TAKE, COMMIT), (TAKE, TAKE, COMMIT), (2, 2))
        items = steps(system, measure, (status, 0, 0, sessions))
        found = [item for item in items if item[0] == STOP]
        self.assertEqual(found, [(STOP, NONE, ("end",), 0)] if listed else [])

    def test_spread(self):
        self.assert_stop("spread", ("no", "no"), (at(1, ((0, 0),), ((0, 0),)), FRESH), False)
        self.assert_stop("spread", ("out", "no"), (at(1, ((0, 1),), ((0, 2),)), FRESH), True)

    def test_late(self):
        for status, sessions, listed in (
            (("no", "no"), (FRESH, FRESH), False),
            (("out", "no"), (at(1, ((0, 1),)), FRESH), False),
            (("out", "out"), (at(1, ((0, 1),), ((0, 3),)), FRESH), False),
            (("out", "in"), (at(1, ((0, 1),)), FRESH), False),
            (("in", "in"), (FRESH, FRESH), True),
            # For the lateness it does not matter what is out.
            (("in", "in"), (at(1, ((0, 2),)), FRESH), True),
        ):
            self.assert_stop("late", status, sessions, listed)

    def test_gap(self):
        for status, sessions, listed in (
            (("no", "no"), (FRESH, FRESH), False),
            (("in", "no"), (FRESH, FRESH), False),
            (("in", "out"), (at(1, ((0, 3),)), FRESH), False),
            (("out", "in"), (at(1, ((0, 1),)), FRESH), False),
            (("in", "in"), (FRESH, FRESH), True),
            (("in", "in"), (FRESH, at(1, ((0, 0),), ((0, 0),))), True),
            (("in", "in"), (FRESH, at(1, ((0, 4),), ((0, 4),))), True),
            (("in", "in"), (FRESH, at(1, ((0, 2),), ((0, 4),))), False),
            (("in", "in"), (FRESH, at(1, ((0, 0),), ((0, 2),))), False),
            (("in", "in"), (at(1, ((0, 2),)), FRESH), False),
        ):
            self.assert_stop("gap", status, sessions, listed)


class Reached(StateCase):
    """Point 28."""

    def test_few_states(self):
        system = one(TAKE, COMMIT)
        out = at(1, ((0, 1),))
        self.assertEqual(
            set(reached(system, "spread")),
            {
                state_of("no", "no", FRESH), state_of("no", "no", at(1, ((0, 0),))),
                state_of("out", "no", out), ("end",),
            },
        )
        self.assertEqual(reach(system, "spread"), 4)
        # The lateness of one session has no end.
        self.assertEqual(
            set(reached(system, "late")),
            {state_of("no", "no", FRESH), state_of("no", "no", at(1, ((0, 0),))), state_of("out", "no", out)},
        )
        self.assertEqual(reach(system, "late"), 3)
        self.assertEqual(list(reached(one(DROP), "gap")), [state_of("no", "no", FRESH)])
        self.assertEqual(reach(one(DROP), "gap"), 1)

    def test_order(self):
        system = two((TAKE, COMMIT), (TAKE, ("choose", (COMMIT,), ())), (2, 1), window=3, ahead=1, crashes=1)
        for measure in MEASURES:
            states_found = list(reached(system, measure))
            self.assertEqual(states_found[0], start(system, measure))
            self.assertEqual(len(states_found), len(set(states_found)))
            self.assertEqual(len(states_found), reach(system, measure))
            self.assertIs(type(reach(system, measure)), int)
            results = {start(system, measure)}
            for state in states_found:
                # Each one is a result of an earlier one.
                self.assertIn(state, results)
                results |= {item[2] for item in steps(system, measure, state)}
            self.assertEqual(results, set(states_found))

    def assert_too_many(self, system, measure):
        with self.assertRaises(TooMany) as caught:
            reach(system, measure)
        self.assertEqual(caught.exception.limit, 2000)
        with self.assertRaises(TooMany) as caught:
            list(reached(system, measure))
        self.assertEqual(caught.exception.limit, 2000)

    def test_too_many(self):
        big = System(Kind("web", (TAKE, TAKE, TAKE, COMMIT), block=2, many=3), window=8)
        for measure in MEASURES:
            self.assert_too_many(big, measure)

    def test_exactly_2000(self):
        maybe, locker = (TAKE, ("choose", (COMMIT,), ())), (LOCK, TAKE, COMMIT)
        for system, measure in (
            (two(maybe, locker, (1, 3), window=7, ahead=1), "gap"),
            (two((TAKE, TAKE, TAKE, COMMIT), (TAKE, TAKE), (1, 3), ahead=2, crashes=1), "late"),
        ):
            self.assertEqual(reach(system, measure), 2000)
            self.assertEqual(len(set(reached(system, measure))), 2000)

    def test_exactly_2001(self):
        pair = (TAKE, TAKE, COMMIT)
        for system, measure in (
            (two(pair, (LOCK, TAKE, UNLOCK, COMMIT), (3, 2), window=7, crashes=1), "spread"),
            (two(pair, (LOCK, TAKE, UNLOCK, COMMIT), (1, 3), crashes=1), "gap"),
            (two((TAKE, TAKE, TAKE, COMMIT), (TAKE, TAKE), (2, 3), window=6, crashes=2), "late"),
        ):
            self.assert_too_many(system, measure)
            # That there are just 2001 shows that the test above is on the edge.
            with mock.patch.object(states, "MOST_STATES", 2001):
                self.assertEqual(reach(system, measure), 2001)

    def test_calls_do_not_matter_to_each_other(self):
        system = two((TAKE, COMMIT), (TAKE, COMMIT), (2, 2), window=4)
        first = list(reached(system, "gap"))
        first[1:] = []
        self.assertGreater(reach(system, "gap"), 1)


if __name__ == "__main__":
    unittest.main()
