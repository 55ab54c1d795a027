"""Points 40 and 41: settings that keep a bound, and systems in comparison."""

import inspect
import itertools
import unittest

from odd import NO_NUMBERS
from samples import (
    BIG, COMMIT, DROP, HUGE, LOCK, LOCKER, MAYBE, MEASURES, ORDERED, PAIR, REVERSE, SHORT, TAKE, one, two,
)
from takenahead.errors import BadMost, BadSystem, NoMeasure, NoSettings, TooMany
from takenahead.measures import greatest
from takenahead.settings import aheads_within, blocks_within, compared, free_of_gaps, windows_within
from takenahead.states import reach
from takenahead.systems import Kind, System

SETTINGS = (blocks_within, windows_within, aheads_within)
WITHIN = two(SHORT, SHORT, (2, 2), window=4)
THREE = System(Kind("a", SHORT), Kind("b", SHORT), Kind("c", SHORT))
NO_BOUNDS = list(NO_NUMBERS) + [-1, 201, -2, HUGE, -HUGE, "0", True, None]
TRIED = (
    one(*SHORT, block=2, ahead=1, crashes=1),
    one(*PAIR, window=2, crashes=2),
    one(*MAYBE),
    one(DROP, ahead=4),
    WITHIN,
    two(SHORT, PAIR, window=2),
    two((LOCK, TAKE, COMMIT), (LOCK, TAKE, COMMIT), (2, 1), window=3),
    two(REVERSE, ORDERED, ahead=1),
    System(Kind("a", SHORT, many=2), window=3),
)


def blocks_of(system):
    return itertools.product((1, 2, 3), repeat=len(system.kinds))


# For each function the settings that it tries, in their order, and how a system is changed to one of them.
TRIALS = (
    (blocks_within, blocks_of, lambda system, blocks: system.with_blocks(blocks)),
    (
        windows_within, lambda system: (1, 2, 3, 4, 5, 6, 7, 8, None),
        lambda system, window: system.with_values(window=window),
    ),
    (aheads_within, lambda system: (0, 1, 2, 3, 4), lambda system, ahead: system.with_values(ahead=ahead)),
)


def values_of(system, measure, settings, change):
    """The pairs of a setting and the greatest value, or -1 for no value and 1000 for an endless one."""
    found = []
    for setting in settings:
        try:
            value = greatest(change(system, setting), measure)
        except BadSystem:
            continue
        found.append((setting, value[1] if value[0] == "most" else -1 if value[0] == "none" else 1000))
    return found


class SettingsCase(unittest.TestCase):
    def assert_wrong(self, error, name, value, call, *values):
        with self.assertRaises(error) as caught:
            call(*values)
        self.assertIs(type(caught.exception), error)
        self.assertIs(getattr(caught.exception, name), value)

    def assert_too_many(self, call, *values):
        with self.assertRaises(TooMany) as caught:
            call(*values)
        self.assertEqual(caught.exception.limit, 2000)


class Interface(unittest.TestCase):
    def test_signatures(self):
        for call, text in (
            (blocks_within, "(system, measure, most)"),
            (windows_within, "(system, measure, most)"),
            (aheads_within, "(system, measure, most)"),
            (compared, "(one, other, measure)"),
            (free_of_gaps, "(system)"),
        ):
            self.assertEqual(str(inspect.signature(call)), text)
            self.assertEqual(call.__module__, "takenahead.settings")


class Settings(SettingsCase):
    """Point 40."""

    def assert_found(self, expected, found):
        self.assertIs(type(found), list)
        self.assertEqual(found, expected)

    def test_blocks(self):
        every = [(1, 1), (1, 2), (1, 3), (2, 1), (2, 2), (2, 3), (3, 1), (3, 2), (3, 3)]
        self.assert_found(every, blocks_within(two(SHORT, SHORT, window=4), "late", 3))
        self.assert_found([], blocks_within(two(SHORT, SHORT, window=4), "late", 2))
        self.assert_found([], blocks_within(two(SHORT, SHORT), "late", 200))
        self.assert_found(every, blocks_within(two(SHORT, SHORT), "gap", 0))
        # One number is out with the block 1, and the whole block with a greater one.
        self.assert_found([(1,)], blocks_within(one(*SHORT), "spread", 1))
        self.assert_found([(1,), (2,)], blocks_within(one(*SHORT, block=3), "spread", 2))
        self.assert_found([(1,), (2,), (3,)], blocks_within(one(*SHORT), "spread", 3))
        self.assert_found([], blocks_within(one(*SHORT), "spread", 0))
        # No value keeps every bound.
        self.assert_found([(1,), (2,), (3,)], blocks_within(one(*SHORT), "late", 0))

    def test_blocks_that_the_window_forbids(self):
        self.assert_found([(1,)], blocks_within(one(*SHORT, window=1), "gap", 0))
        self.assert_found([(1,), (2,)], blocks_within(one(*SHORT, window=2), "gap", 0))
        self.assert_found([(1, 1), (1, 2), (2, 1), (2, 2)], blocks_within(two(SHORT, SHORT, window=2), "gap", 0))

    def test_blocks_of_kinds_with_many_sessions(self):
        # One block for each kind, not for each session.
        self.assert_found([(1,), (2,)], blocks_within(System(Kind("a", SHORT, many=2), window=2), "late", 1))

    def test_windows(self):
        self.assert_found([2, 3, 4], windows_within(two(SHORT, SHORT, (2, 2)), "late", 3))
        self.assert_found([2, 3], windows_within(WITHIN, "late", 2))
        self.assert_found([2, 3, 4, 5, 6, 7, 8], windows_within(WITHIN, "late", 200))
        # None is the last one.
        self.assert_found([2, 3, 4, 5, 6, 7, 8, None], windows_within(WITHIN, "gap", 0))
        self.assert_found([1, 2, 3, 4, 5, 6, 7, 8, None], windows_within(one(*SHORT), "spread", 1))
        self.assert_found([3, 4, 5, 6, 7, 8, None], windows_within(one(*SHORT, block=3), "spread", 3))
        self.assert_found([], windows_within(one(*SHORT, block=3), "spread", 2))
        self.assert_found([1, 2, 3, 4, 5, 6, 7, 8, None], windows_within(one(DROP, window=2), "spread", 0))

    def test_aheads(self):
        # Each crash loses the number that is taken, and then the values that are noted ahead.
        system = one(*SHORT, ahead=2, crashes=1)
        for most, expected in ((0, []), (1, [0]), (2, [0, 1]), (3, [0, 1, 2]), (4, [0, 1, 2, 3]), (5, [0, 1, 2, 3, 4])):
            self.assert_found(expected, aheads_within(system, "gap", most))
        self.assert_found([0, 1, 2, 3, 4], aheads_within(one(*SHORT), "gap", 0))
        self.assert_found([], aheads_within(one(*MAYBE), "gap", 200))

    def test_against_greatest(self):
        for number, system in enumerate(TRIED):
            for measure in MEASURES:
                for call, settings_of, change in TRIALS:
                    pairs = values_of(system, measure, settings_of(system), change)
                    values = {value for setting, value in pairs}
                    for most in {0, 200} | {value + more for value in values for more in (-1, 0)}:
                        if 0 <= most <= 200:
                            with self.subTest(number, measure=measure, call=call.__name__, most=most):
                                expected = [setting for setting, value in pairs if value <= most]
                                self.assert_found(expected, call(system, measure, most))

    def test_system_stays(self):
        system = two(SHORT, PAIR, (2, 1), window=3, ahead=1)
        other = two(SHORT, PAIR, (2, 1), window=3, ahead=1)
        for call in SETTINGS:
            call(system, "late", 1).append(7)
            self.assertNotIn(7, call(system, "late", 1))
        self.assertEqual(system, other)


class Errors(SettingsCase):
    def test_no_measure_first(self):
        for measure in list(NO_NUMBERS) + ["", "Gap", "lateness", b"gap", ("gap",)]:
            for call in SETTINGS:
                for system in (WITHIN, THREE, BIG):
                    for most in (0, -1, None):
                        self.assert_wrong(NoMeasure, "measure", measure, call, system, measure, most)
            self.assert_wrong(NoMeasure, "measure", measure, compared, WITHIN, WITHIN, measure)
            self.assert_wrong(NoMeasure, "measure", measure, compared, BIG, BIG, measure)

    def test_bad_most(self):
        for call in SETTINGS:
            for most in NO_BOUNDS:
                # Before too many kinds, and before too many states.
                for system in (WITHIN, THREE, BIG):
                    self.assert_wrong(BadMost, "most", most, call, system, "gap", most)
            for most in (0, 200):
                call(WITHIN, "gap", most)

    def test_no_settings(self):
        big = System(*[Kind(name, LOCKER, block=3) for name in "abc"])
        self.assert_too_many(greatest, big, "gap")
        for call in SETTINGS:
            for system in (THREE, big):
                for measure in MEASURES:
                    with self.assertRaises(NoSettings) as caught:
                        call(system, measure, 0)
                    self.assertIs(type(caught.exception), NoSettings)
        # Two kinds of three sessions are not too many.
        system = System(Kind("a", SHORT, many=2), Kind("b", (DROP,)), window=1)
        for call in SETTINGS[1:]:
            call(system, "spread", 5)

    def test_too_many(self):
        for call in SETTINGS:
            for measure in MEASURES:
                for most in (0, 200):
                    self.assert_too_many(call, BIG, measure, most)

    def test_too_many_for_one_setting(self):
        # The system itself has few states, but not with each of the others.
        system = two(PAIR, LOCKER, (1, 2))
        self.assertEqual(reach(system, "gap"), 555)
        self.assert_too_many(reach, system.with_values(ahead=4), "gap")
        self.assert_too_many(aheads_within, system, "gap", 200)
        self.assert_too_many(blocks_within, system, "gap", 0)
        system = System(Kind("a", (TAKE, TAKE, TAKE, COMMIT), many=2), window=1)
        for measure in MEASURES:
            self.assertLess(reach(system, measure), 10)
            self.assert_too_many(reach, system.with_values(window=7), measure)
            self.assert_too_many(windows_within, system, measure, 0)


class Compared(SettingsCase):
    """Point 41."""

    def test_compared(self):
        none, zero, three = one(DROP), one(*SHORT), one(TAKE, ("choose", (DROP,), ()), COMMIT, block=3)
        endless, other_endless = one(*MAYBE), one(*MAYBE, block=2)
        self.assertEqual(
            [greatest(system, "gap") for system in (none, zero, three, endless, other_endless)],
            [("none",), ("most", 0), ("most", 2), ("endless",), ("endless",)],
        )
        ascending = (none, zero, three, endless)
        for first, system in enumerate(ascending):
            for second, other in enumerate(ascending):
                expected = "less" if first < second else "more" if first > second else "same"
                self.assertEqual(compared(system, other, "gap"), expected)
        self.assertEqual(compared(endless, other_endless, "gap"), "same")
        self.assertEqual(compared(none, one(TAKE), "gap"), "same")
        self.assertEqual(compared(zero, one(*SHORT, block=3), "gap"), "same")

    def test_measures(self):
        free = two(SHORT, SHORT, (2, 2))
        for measure, expected in (("gap", "same"), ("late", "less"), ("spread", "less")):
            self.assertEqual(compared(WITHIN, free, measure), expected)
        self.assertEqual(compared(WITHIN, WITHIN.with_values(window=3), "late"), "more")
        # The lateness of one session has no value, its spread has one.
        self.assertEqual(compared(one(*SHORT), one(DROP), "late"), "same")
        self.assertEqual(compared(one(*SHORT), one(DROP), "spread"), "more")

    def test_great_values(self):
        # 9 and 11 are in the order of numbers, not of strings.
        lower, upper = one(*SHORT, ahead=4, crashes=2), one(*SHORT, block=3, ahead=4, crashes=2)
        self.assertEqual([greatest(lower, "gap"), greatest(upper, "gap")], [("most", 9), ("most", 11)])
        self.assertEqual((compared(lower, upper, "gap"), compared(upper, lower, "gap")), ("less", "more"))

    def test_free_of_gaps(self):
        for system, expected in (
            (one(DROP), True), (one(TAKE), True), (one(*SHORT), True), (one(*SHORT, block=3), True), (WITHIN, True),
            (one(*MAYBE), False), (one(*SHORT, crashes=1), False), (one(TAKE, TAKE, COMMIT, DROP, block=3), False),
            (two(REVERSE, SHORT), True), (two(MAYBE, SHORT), False),
        ):
            self.assertIs(free_of_gaps(system), expected)

    def test_too_many(self):
        for measure in MEASURES:
            self.assert_too_many(compared, BIG, WITHIN, measure)
            self.assert_too_many(compared, WITHIN, BIG, measure)
            # An endless value does not save the look at the other system.
            self.assert_too_many(compared, one(*MAYBE), BIG, measure)
        self.assert_too_many(free_of_gaps, BIG)


if __name__ == "__main__":
    unittest.main()
