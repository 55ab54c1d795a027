"""Points 42 to 44: plain states, stuck systems, and what is wrong with a list of plain states."""

import copy
import inspect
import unittest

from model import Model
from samples import (
    BIG, COMMIT, CRASH, DROP, FRESH, LOCK, LOCKER, MEASURES, NONE, PAIR, SHORT, SYSTEMS, TAKE, UNLOCK, one, two,
)
from takenahead.errors import TooMany
from takenahead.schedules import Running
from takenahead.states import reached, start, steps
from takenahead.stuck import plain_fault, plain_states, stuck
from takenahead.systems import Kind, System

LOCK_B = ("lock", "b")
# Two sessions that acquire two locks in opposite order, and in the same order.
OPPOSITE = two((LOCK, LOCK_B, TAKE, COMMIT), (LOCK_B, LOCK, DROP))
SAME_ORDER = two((LOCK, LOCK_B, TAKE, COMMIT), (LOCK, LOCK_B, DROP))
# The window leaves no room for the second number.
NARROW = one(*PAIR, window=1)
# 2000 plain states, and 2001 of them.
FULL = System(Kind("a", (TAKE, ("choose", (COMMIT,), ()), LOCK_B), block=2, many=3), ahead=2)
OVER = two(
    (("choose", (TAKE,), (DROP,)), ("choose", (COMMIT,), ()), UNLOCK, TAKE),
    (UNLOCK, ("choose", (), (LOCK,)), LOCK, TAKE, ("choose", (TAKE,), (DROP,))),
    (2, 3), ahead=2, window=7,
)


def plain_model(system):
    """A dict from each plain state to its distance, whether all sessions wait, and the dict of its steps."""
    first = Model(system)
    found = {}
    waiting = [(0, first)]
    for distance, model in waiting:
        state = model.state(None, None)
        if state in found:
            continue
        following = {step: model.after(step) for step in model.possible()}
        alone = all(model.waits(session) for session in range(model.many))
        found[state] = (distance, alone, {step: after.state(None, None) for step, after in following.items()})
        waiting += [(distance + 1, after) for after in following.values()]
    return found


class Interface(unittest.TestCase):
    def test_signatures(self):
        for call, text in (
            (plain_states, "(system)"), (stuck, "(system)"), (plain_fault, "(system, states)"),
        ):
            self.assertEqual(str(inspect.signature(call)), text)
            self.assertEqual(call.__module__, "takenahead.stuck")


class PlainStates(unittest.TestCase):
    """Point 42."""

    def test_small(self):
        first = (("no", "no"), 0, 0, (FRESH,))
        self.assertEqual(plain_states(one(DROP)), [first])
        self.assertEqual(
            plain_states(one(*SHORT)), [first, (("no", "no"), 0, 0, (((1,), (), ((0, 0),), ()),))],
        )
        self.assertEqual(
            plain_states(one(DROP, ahead=3, crashes=1)),
            [(("no", "no"), 3, 0, (FRESH,)), (("no", "no"), 3, 1, (FRESH,))],
        )

    def test_all_systems(self):
        for number, system in enumerate(SYSTEMS + (OPPOSITE, SAME_ORDER, NARROW)):
            with self.subTest(number):
                found = plain_states(system)
                self.assertIs(type(found), list)
                self.assertEqual(found, sorted(plain_model(system)))
                for measure in MEASURES:
                    self.assertEqual(found, self.from_steps(system, measure))
                    # Not each state without a mark is listed for its own sake, but each plain one is one.
                    unmarked = [state for state in reached(system, measure) if state[0] == ("no", "no")]
                    self.assertEqual(found, sorted(unmarked))

    def from_steps(self, system, measure):
        """The plain states, as point 42 says it with `steps`."""
        found = [start(system, measure)]
        for state in found:
            for step, offsets, result, gain in steps(system, measure, state):
                if offsets == NONE and result[0] == ("no", "no") and result not in found:
                    found.append(result)
        return sorted(found)

    def test_results_are_new(self):
        plain_states(OPPOSITE).clear()
        self.assertEqual(len(plain_states(OPPOSITE)), len(plain_model(OPPOSITE)))

    def test_2000(self):
        self.assertEqual(len(plain_states(FULL)), 2000)
        self.assertEqual(len(set(plain_states(FULL))), 2000)

    def test_too_many(self):
        self.assertEqual(len(plain_model(OVER)), 2001)
        for system in (BIG, OVER):
            with self.assertRaises(TooMany) as caught:
                plain_states(system)
            self.assertEqual(caught.exception.limit, 2000)

    def test_states_of_measures_do_not_count(self):
        # There are too many states for the gap, but few plain ones.
        system = two(PAIR, LOCKER, (1, 3), crashes=1)
        with self.assertRaises(TooMany):
            list(reached(system, "gap"))
        self.assertLess(len(plain_states(system)), 200)
        self.assertIsNone(stuck(system))


class Stuck(unittest.TestCase):
    """Point 43."""

    def assert_stuck(self, system, length):
        schedule = stuck(system)
        self.assertIs(type(schedule), list)
        running = Running(system)
        for step in schedule:
            running(step)
        self.assertEqual(running.waits(), list(range(len(system.sessions))))
        self.assertEqual(len(schedule), length)

    def test_locks(self):
        self.assert_stuck(OPPOSITE, 2)
        self.assertEqual(sorted(stuck(OPPOSITE)), [(0, 0), (1, 0)])
        self.assertIsNone(stuck(SAME_ORDER))
        # Three sessions in a circle.
        names = (("lock", "a"), ("lock", "b"), ("lock", "c"))
        circle = [Kind("abc"[at], (names[at], names[(at + 1) % 3], DROP)) for at in range(3)]
        self.assert_stuck(System(*circle), 3)
        # The lock is released again before the next one.
        self.assertIsNone(stuck(two((LOCK, UNLOCK, LOCK_B, DROP), (LOCK_B, LOCK, DROP))))
        # One session that acquires a lock twice does not wait for itself.
        self.assertIsNone(stuck(one(LOCK, LOCK, DROP)))

    def test_windows(self):
        self.assert_stuck(NARROW, 1)
        self.assert_stuck(one(TAKE, TAKE, TAKE, COMMIT, window=2), 2)
        self.assertIsNone(stuck(one(*PAIR, window=2)))
        self.assertIsNone(stuck(one(*PAIR, window=1).with_values(window=None)))
        # Each session holds one number and wants one more.
        self.assert_stuck(System(Kind("a", PAIR, many=2), window=2), 2)
        # One session holds 0, the other one takes and commits 1 and 2.
        self.assert_stuck(System(Kind("a", PAIR, many=2), window=3), 4)
        self.assertIsNone(stuck(System(Kind("a", SHORT, many=3), window=1)))

    def test_window_and_lock(self):
        # One session holds the lock and wants a number, the other one holds a number and wants the lock.
        self.assert_stuck(two((LOCK, TAKE, COMMIT), (TAKE, LOCK, COMMIT), window=1), 2)

    def test_answers(self):
        system = two((("choose", (LOCK,), (DROP,)), LOCK_B, DROP), (LOCK_B, ("choose", (DROP,), (LOCK,)), DROP))
        self.assert_stuck(system, 4)
        self.assertIn((0, 0), stuck(system))
        self.assertIn((1, 1), stuck(system))

    def test_crashes(self):
        # A crash is possible, and all sessions wait nevertheless.
        self.assert_stuck(OPPOSITE.with_values(crashes=2), 2)
        self.assert_stuck(NARROW.with_values(crashes=1, ahead=2), 1)

    def test_all_systems(self):
        for number, system in enumerate(SYSTEMS):
            lengths = [distance for distance, alone, following in plain_model(system).values() if alone]
            with self.subTest(number):
                if lengths:
                    self.assert_stuck(system, min(lengths))
                else:
                    self.assertIsNone(stuck(system))

    def test_edge_of_too_many(self):
        self.assertIsNone(stuck(FULL))
        # It can get stuck, but there are 2001 plain states.
        self.assertTrue(any(alone for distance, alone, following in plain_model(OVER).values()))
        for system in (BIG, OVER):
            with self.assertRaises(TooMany) as caught:
                stuck(system)
            self.assertEqual(caught.exception.limit, 2000)

    def test_results_are_new(self):
        stuck(OPPOSITE).clear()
        self.assert_stuck(OPPOSITE, 2)


class PlainFault(unittest.TestCase):
    """Point 44."""

    def assert_fault(self, system, states):
        """Checks the fault of a list of plain states by the slow program, and returns it."""
        found = plain_model(system)
        before = copy.copy(states)
        fault = plain_fault(system, states)
        self.assertEqual(states, before)
        if Model(system).state(None, None) not in states:
            self.assertEqual(fault, ("start",))
            return fault
        allowed = [("stuck", state) for state in states if found[state][1]] + [
            ("missing", state, step)
            for state in states for step, result in found[state][2].items() if result not in states
        ]
        if allowed:
            self.assertIn(fault, allowed)
        else:
            self.assertIsNone(fault)
        return fault

    def test_none(self):
        for system in (one(DROP), one(*SHORT), SAME_ORDER, one(*SHORT, block=2, ahead=2, crashes=2, window=3)):
            states = plain_states(system)
            self.assertIsNone(self.assert_fault(system, states))
            self.assertIsNone(self.assert_fault(system, states[::-1]))
            self.assertIsNone(self.assert_fault(system, states * 2))
            self.assertIsNone(self.assert_fault(system, [each for state in states for each in (state, state)]))

    def test_start(self):
        for system in (one(DROP), one(*SHORT), OPPOSITE, NARROW):
            self.assertEqual(self.assert_fault(system, []), ("start",))
            states = plain_states(system)
            states.remove(start(system, "gap"))
            self.assertEqual(self.assert_fault(system, states), ("start",))
            self.assertEqual(self.assert_fault(system, states * 3), ("start",))

    def test_missing(self):
        system = one(*SHORT, ahead=1, crashes=1)
        first = start(system, "gap")
        self.assertEqual(self.assert_fault(system, [first])[:2], ("missing", first))
        self.assertEqual(self.assert_fault(system, [first] * 3)[:2], ("missing", first))
        # What is missing can be behind a crash only.
        system = one(DROP, crashes=1)
        first = start(system, "gap")
        self.assertEqual(self.assert_fault(system, [first]), ("missing", first, CRASH))

    def test_stuck(self):
        fault = self.assert_fault(OPPOSITE, plain_states(OPPOSITE))
        self.assertEqual(fault[0], "stuck")
        self.assertEqual([(item[0], item[1]) for item in fault[1][3]], [((1,), ("a",)), ((1,), ("b",))])
        self.assertEqual(self.assert_fault(NARROW, plain_states(NARROW)[::-1] * 2)[0], "stuck")
        # A crash leads out of it, but it does not count.
        system = NARROW.with_values(crashes=1)
        self.assertEqual(self.assert_fault(system, plain_states(system))[0], "stuck")

    def test_each_state_left_out(self):
        for number, system in enumerate(SYSTEMS + (OPPOSITE, NARROW)):
            states = plain_states(system)
            found = any(alone for distance, alone, following in plain_model(system).values())
            with self.subTest(number):
                fault = self.assert_fault(system, states)
                self.assertEqual(fault is not None, found)
            for state in states[:40]:
                with self.subTest(number, state=state):
                    others = [other for other in states if other != state]
                    self.assertIsNotNone(self.assert_fault(system, others))
                    self.assertIsNotNone(self.assert_fault(system, (others + others)[::-1]))

    def test_never_too_many(self):
        for system in (BIG, OVER):
            self.assertEqual(plain_fault(system, []), ("start",))
            first = start(system, "gap")
            fault = plain_fault(system, [first])
            self.assertEqual(fault[:2], ("missing", first))
        states = sorted(plain_model(OVER))
        self.assertEqual(plain_fault(OVER, states)[0], "stuck")


if __name__ == "__main__":
    unittest.main()
