"""Points 34 to 36: loops, what is wrong with one, and schedules that turn in one."""

import copy
import inspect
import unittest

from model import graph_of
from odd import NO_NUMBERS
from samples import (
    BIG, COMMIT, CRASH, DROP, HUGE, LOCKER, LOSER, MAYBE, MEASURES, NONE, SHORT, STOP, SYSTEMS, TAKE, VALUE_OF, one,
    two,
)
from takenahead.errors import BadTimes, NoMeasure, TooMany
from takenahead.loops import loop, loop_fault, turned
from takenahead.measures import greatest
from takenahead.schedules import run
from takenahead.states import reach, start, steps
from takenahead.systems import Kind, System

# Both sessions take and commit without a window.
FREE = two(SHORT, SHORT)
MORE_SYSTEMS = (
    FREE,
    one(*MAYBE),
    one(*LOSER, block=2),
    two(LOCKER, LOCKER, (3, 1)),
    two(SHORT, MAYBE, (2, 1), ahead=1, crashes=1),
    two((("choose", SHORT, (DROP,)),), SHORT),
    System(Kind("a", SHORT, many=3)),
)

# A right loop of FREE by hand: the session 0 takes a, the session 1 takes and commits any number of times, then it
# takes and commits b, and the session 0 commits a.
BEFORE = [((0, 0), (0, None))]
AROUND = [((1, 0), NONE), ((1, 0), NONE)]
AFTER = [((1, 0), (None, 0)), ((1, 0), NONE), ((0, 0), NONE)]


def walk(graph, state, marked_steps):
    """The state behind a road of a graph and the sum of its gains."""
    total = 0
    for marked in marked_steps:
        found = [item for item in graph[state] if item[:2] == marked]
        assert len(found) == 1, marked
        state, total = found[0][2], total + found[0][3]
    return state, total


def endless_ones():
    """The pairs of a system and a measure without a greatest value."""
    pairs = [(system, measure) for system in SYSTEMS + MORE_SYSTEMS for measure in MEASURES]
    return [(system, measure) for system, measure in pairs if greatest(system, measure) == ("endless",)]


class LoopCase(unittest.TestCase):
    def assert_loop(self, system, measure, found):
        """Checks a loop by point 34, with the states of the slow program."""
        self.assertIs(type(found), tuple)
        graph = graph_of(system, measure)
        for part in found:
            self.assertIs(type(part), list)
            self.assertLessEqual(len(part), len(graph))
            self.assertNotIn(STOP, [step for step, offsets in part])
        before, around, after = found
        state, more = walk(graph, start(system, measure), before)
        self.assertGreaterEqual(len(around), 1)
        self.assertEqual({offsets for step, offsets in around}, {NONE})
        again, gain = walk(graph, state, around)
        self.assertEqual(again, state)
        self.assertGreaterEqual(gain, 1)
        last, rest = walk(graph, state, after)
        self.assertIn(STOP, [item[0] for item in graph[last]])
        return more + rest, gain


class Interface(unittest.TestCase):
    def test_signatures(self):
        for call, text in (
            (loop, "(system, measure)"),
            (loop_fault, "(system, measure, before, around, after)"),
            (turned, "(before, around, after, times)"),
        ):
            self.assertEqual(str(inspect.signature(call)), text)
            self.assertEqual(call.__module__, "takenahead.loops")


class Loop(LoopCase):
    """Point 34."""

    def test_none(self):
        found = 0
        for number, system in enumerate(SYSTEMS):
            for measure in MEASURES:
                with self.subTest(number, measure=measure):
                    if greatest(system, measure) != ("endless",):
                        self.assertIsNone(loop(system, measure))
                        found += 1
        self.assertGreater(found, 20)
        self.assertIsNone(loop(one(DROP), "gap"))
        # The gain has no end, but no road leads to the end.
        self.assertIsNone(loop(two((TAKE, ("choose", (), ())), SHORT), "late"))

    def test_loops(self):
        pairs = endless_ones()
        self.assertEqual({measure for system, measure in pairs}, set(MEASURES))
        for number, (system, measure) in enumerate(pairs):
            with self.subTest(number, measure=measure):
                self.assert_loop(system, measure, loop(system, measure))

    def test_results_are_new(self):
        found = loop(FREE, "late")
        for part in found:
            part.clear()
        self.assert_loop(FREE, "late", loop(FREE, "late"))

    def test_at_the_edge_of_too_many(self):
        system = two(MAYBE, (("lock", "a"), TAKE, COMMIT), (1, 3), window=7, ahead=1)
        self.assertEqual(reach(system, "gap"), 2000)
        self.assert_loop(system, "gap", loop(system, "gap"))


class LoopFault(LoopCase):
    """Point 35."""

    def assert_fault(self, expected, before, around, after, system=FREE, measure="late"):
        lists = copy.deepcopy((before, around, after))
        self.assertEqual(loop_fault(system, measure, before, around, after), expected)
        self.assertEqual((before, around, after), lists)

    def test_by_hand(self):
        self.assert_fault(None, BEFORE, AROUND, AFTER)
        self.assert_fault(None, BEFORE, AROUND * 3, AFTER)
        self.assert_fault(None, BEFORE + AROUND, AROUND, AROUND + AFTER)
        self.assert_fault(None, BEFORE, [((1, 0), NONE)] * 2, AFTER + [((1, 0), NONE), ((0, 0), NONE)])

    def test_found_loops(self):
        for number, (system, measure) in enumerate(endless_ones()):
            with self.subTest(number, measure=measure):
                before, around, after = loop(system, measure)
                self.assert_fault(None, before, around, after, system, measure)
                self.assert_fault(None, before + around, around + around, around + after, system, measure)
                # Each list is needed.
                self.assert_fault(("loop",), before, [], after, system, measure)

    def test_wrong_steps(self):
        right = (BEFORE, AROUND, AFTER)
        # No session 2, no answer 1 here, no crash, and offsets of no item of the state that is reached.
        for index in range(6):
            part = 0 if index < 1 else 1 if index < 3 else 2
            at = index - (0, 1, 3)[part]
            offsets = right[part][at][1]
            for marked in (
                ((2, 0), NONE), ((-1, 0), NONE), ((0, 1), NONE), ((1, 1), offsets), (CRASH, NONE), ((HUGE, 0), NONE),
                ((1, 0), (1, None)), ((1, 0), (None, 1)), ((1, 0), (0, 0)), ((0, 0), (5, 6)), ((0, 0), (-1, None)),
            ):
                lists = [list(each) for each in right]
                lists[part][at] = marked
                self.assert_fault(("step", index), *lists)

    def test_offsets_that_are_wrong_here(self):
        # The step is possible, but not with these offsets.
        self.assert_fault(("step", 0), [((0, 0), (None, 0))], AROUND, AFTER)
        self.assert_fault(("step", 3), BEFORE, AROUND, [((1, 0), (0, None))] + AFTER[1:])
        self.assert_fault(("step", 4), BEFORE, AROUND, [AFTER[0], ((1, 0), (None, 0)), AFTER[2]])

    def test_first_wrong_step(self):
        wrong = ((2, 0), NONE)
        self.assert_fault(("step", 0), [wrong, wrong], [wrong], [wrong])
        self.assert_fault(("step", 1), BEFORE, [wrong] + AROUND, [wrong])
        self.assert_fault(("step", 3), BEFORE, AROUND, [wrong, wrong])
        self.assert_fault(("step", 2), BEFORE, [AROUND[0], wrong], AFTER)
        # Where the lists before are empty, the index is still that over all three.
        self.assert_fault(("step", 0), [], [], [wrong])
        self.assert_fault(("step", 1), [], [], [((1, 0), NONE), wrong])

    def test_stop(self):
        self.assert_fault(("step", 6), BEFORE, AROUND, AFTER + [(STOP, NONE)])
        self.assert_fault(("step", 4), BEFORE + AFTER, [(STOP, NONE)], [])
        self.assert_fault(("step", 4), BEFORE + AFTER + [(STOP, NONE)], AROUND, AFTER)
        self.assert_fault(("step", 0), [(STOP, NONE)], AROUND, AFTER)
        # Behind the end nothing is right.
        self.assert_fault(("step", 1), [BEFORE[0], (STOP, NONE)], [], [], measure="spread")

    def test_marks_inside_of_around(self):
        # These steps are possible, but they mark numbers.
        self.assert_fault(("step", 0), [], BEFORE + AROUND, AFTER)
        self.assert_fault(("step", 3), BEFORE, AROUND + AFTER, [])
        self.assert_fault(("step", 1), BEFORE, AFTER, [])

    def test_wrong_step_before_other_faults(self):
        self.assert_fault(("step", 1), BEFORE, [], [((0, 1), NONE)])
        self.assert_fault(("step", 2), BEFORE, AROUND[:1], [((0, 1), NONE)])
        self.assert_fault(("step", 0), [], [(CRASH, NONE)], [])

    def test_loop(self):
        self.assert_fault(("loop",), BEFORE, [], AFTER)
        self.assert_fault(("loop",), BEFORE, AROUND[:1], AROUND[1:] + AFTER)
        self.assert_fault(("loop",), [], [], [])
        self.assert_fault(("loop",), [], [((0, 0), NONE)], [])
        # It comes before the gain and the end.
        self.assert_fault(("loop",), [], [((0, 0), NONE)], [((1, 0), NONE)])

    def test_gain(self):
        # Before a is marked, nothing is gained, and neither after b is marked.
        self.assert_fault(("gain",), [], AROUND, BEFORE + AFTER)
        self.assert_fault(("gain",), BEFORE + AFTER, AROUND, [])
        self.assert_fault(("gain",), BEFORE + AFTER[:2], AROUND, AFTER[2:])
        # It comes before the end.
        self.assert_fault(("gain",), [], AROUND, [])
        self.assert_fault(("gain",), [], AROUND, BEFORE)
        # The gain of the other lists does not count.
        self.assert_fault(("gain",), BEFORE + AROUND + AFTER[:2], AROUND, AFTER[2:])

    def test_end(self):
        self.assert_fault(("end",), BEFORE, AROUND, [])
        self.assert_fault(("end",), BEFORE, AROUND, AROUND)
        self.assert_fault(("end",), BEFORE, AROUND, AFTER[:1])
        self.assert_fault(("end",), BEFORE, AROUND, AFTER[:2])
        self.assert_fault(None, BEFORE, AROUND, [], measure="spread")
        self.assert_fault(None, BEFORE, AROUND, AROUND, measure="spread")

    def test_around_with_a_crash(self):
        system = two(SHORT, SHORT, crashes=1)
        self.assert_fault(None, BEFORE, AROUND, AFTER, system)
        # A crash is left, but a is out.
        self.assert_fault(("step", 1), BEFORE, [(CRASH, NONE)], AFTER, system)
        self.assert_fault(None, [(CRASH, NONE)] + BEFORE, AROUND, AFTER, system)
        self.assert_fault(("step", 1), [(CRASH, NONE), (CRASH, NONE)], AROUND, AFTER, system)
        # The state behind a crash has one crash less.
        self.assert_fault(("loop",), [], [(CRASH, NONE)], BEFORE + AFTER, system)

    def test_never_too_many(self):
        for measure in MEASURES:
            self.assert_fault(("loop",), [], [], [], BIG, measure)
            self.assert_fault(("step", 0), [], [((0, 1), NONE)], [], BIG, measure)
        system = System(Kind("web", (TAKE, TAKE, TAKE, COMMIT), block=2, many=3))
        with self.assertRaises(TooMany):
            loop(system, "spread")
        # The first session holds 0, the second one takes three numbers and commits them.
        around = [((1, 0), NONE)] * 8
        self.assert_fault(None, [((0, 0), (0, None))], around, [], system, "spread")


class Turned(LoopCase):
    """Point 36."""

    def test_by_hand(self):
        before, around, after = [(0, 0)], [(1, 0), (1, 0)], [(1, 0), (1, 0), (0, 0)]
        for times in (0, 1, 2, 100):
            found = turned(BEFORE, AROUND, AFTER, times)
            self.assertIs(type(found), list)
            self.assertEqual(found, before + around * times + after)
        self.assertEqual(turned([], [], [], 5), [])
        self.assertEqual(turned([(CRASH, NONE)], [], [((0, 1), (None, 2))], 1), [CRASH, (0, 1)])

    def test_values(self):
        for number, (system, measure) in enumerate(endless_ones()):
            found = loop(system, measure)
            rest, gain = self.assert_loop(system, measure, found)
            for times in (0, 1, 7, 100):
                with self.subTest(number, measure=measure, times=times):
                    value = VALUE_OF[measure](run(system, turned(*found, times)))
                    self.assertGreaterEqual(value, rest + times * gain)

    def test_lists(self):
        lists = (list(BEFORE), list(AROUND), list(AFTER))
        turned(*lists, 3).clear()
        self.assertEqual(lists, (BEFORE, AROUND, AFTER))
        turned(lists[0], [], [], 0).append(1)
        self.assertEqual(lists[0], BEFORE)

    def test_bad_times(self):
        for times in list(NO_NUMBERS) + [-1, 101, -2, 200, HUGE, -HUGE, "1", True, None]:
            with self.assertRaises(BadTimes) as caught:
                turned(BEFORE, AROUND, AFTER, times)
            self.assertIs(caught.exception.times, times)


class Errors(LoopCase):
    def test_no_measure_first(self):
        for measure in list(NO_NUMBERS) + ["", "Late", b"late", ("late",)]:
            for system in (FREE, BIG):
                for call, values in ((loop, ()), (loop_fault, ([], [], [])), (loop_fault, (BEFORE, AROUND, AFTER))):
                    with self.assertRaises(NoMeasure) as caught:
                        call(system, measure, *values)
                    self.assertIs(caught.exception.measure, measure)

    def test_too_many(self):
        for measure in MEASURES:
            with self.assertRaises(TooMany) as caught:
                loop(BIG, measure)
            self.assertEqual(caught.exception.limit, 2000)


if __name__ == "__main__":
    unittest.main()
