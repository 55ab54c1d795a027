"""Points 2 and 19 over the whole interface, and the points together on whole systems."""

import ast
import copy
import importlib
import inspect
import pathlib
import unittest

import takenahead
from odd import NO_NUMBERS
from samples import BIG, LOCKER, MAYBE, MEASURES, PAIR, REVERSE, SHORT, SYSTEMS, VALUE_OF, one, two
from takenahead.certificates import certificate, certificate_fault
from takenahead.errors import Endless, NoMeasure
from takenahead.loops import loop, loop_fault, turned
from takenahead.measures import greatest, shortest, witness
from takenahead.readers import Reader, least_lag, losing, missed, read
from takenahead.records import gap, gaps, late, spread
from takenahead.schedules import Running, run
from takenahead.scripts import Script, places_of
from takenahead.settings import aheads_within, blocks_within, compared, free_of_gaps, windows_within
from takenahead.states import reach, reached, start, steps
from takenahead.stuck import plain_fault, plain_states, stuck
from takenahead.systems import Kind, System
from takenahead.texts import read_schedule, read_system, write_schedule, write_system

INTERFACE = {
    "errors": (
        "TakeError BadScript NoPlace NoAnswer BadKind BadSystem NoKind NoSession BadStep NoMeasure TooMany BadLeast "
        "BadTimes NoPolls BadLag Endless BadMost NoSettings BadText"
    ),
    "scripts": "Script places_of",
    "systems": "Kind System",
    "records": "Record gaps gap late spread",
    "schedules": "Running run",
    "states": "start steps reached reach",
    "measures": "greatest witness shortest",
    "certificates": "certificate certificate_fault",
    "loops": "loop loop_fault turned",
    "readers": "Reader read missed least_lag losing",
    "settings": "blocks_within windows_within aheads_within compared free_of_gaps",
    "stuck": "plain_states stuck plain_fault",
    "texts": "write_system read_system write_schedule read_schedule",
}

METHODS = {
    "scripts.Script": "after __len__ __contains__ __getitem__ __eq__",
    "systems.Kind": "__eq__",
    "systems.System": "kind_of with_values with_blocks __getitem__ __eq__",
    "schedules.Running": "can waits history record trial __call__ __enter__ __exit__",
    "readers.Reader": "poll mark __contains__ __len__",
}


def system():
    """A new system, equal to that of each other call."""
    return two(SHORT, PAIR, (2, 1), window=4)


def endless():
    return two(SHORT, SHORT, crashes=1)


def record():
    return run(system(), [(0, 0), (1, 0), (1, 0), (0, 0), (1, 0)])


# For each function a function that makes new arguments, equal to those of each other call.
CALLS = (
    (lambda script: list(places_of(script)), lambda: [Script(SHORT)]),
    (gap, lambda: [record()]),
    (gaps, lambda: [record()]),
    (late, lambda: [record()]),
    (spread, lambda: [record()]),
    (lambda *values: vars(run(*values)), lambda: [system(), [(0, 0), (1, 0), (1, 0)]]),
    (lambda *values: vars(Running(values[0]).trial(values[1])), lambda: [system(), [(0, 0), (1, 0), (1, 0)]]),
    (start, lambda: [system(), "gap"]),
    (steps, lambda: [system(), "gap", start(system(), "gap")]),
    (lambda *values: list(reached(*values)), lambda: [system(), "late"]),
    (reach, lambda: [system(), "late"]),
    (greatest, lambda: [system(), "late"]),
    (witness, lambda: [system(), "late", 2]),
    (shortest, lambda: [system(), "late", 2]),
    (certificate, lambda: [system(), "spread"]),
    (certificate_fault, lambda: [system(), "spread", certificate(system(), "spread"), 4]),
    (certificate_fault, lambda: [system(), "spread", {start(system(), "spread"): None}, None]),
    (loop, lambda: [endless(), "late"]),
    (loop_fault, lambda: [endless(), "late", *loop(endless(), "late")]),
    (turned, lambda: [*loop(endless(), "late"), 3]),
    (lambda reader, found: reader.poll(found), lambda: [Reader(3), record()]),
    (read, lambda: [system(), [(0, 0), (0, 0), (0, 0)], [0, 2, 3], 1]),
    (missed, lambda: [system(), [(0, 0), (0, 0), (0, 0)], [0, 2, 3], 1]),
    (least_lag, lambda: [system()]),
    (losing, lambda: [system(), 1]),
    (blocks_within, lambda: [system(), "late", 3]),
    (windows_within, lambda: [system(), "late", 3]),
    (aheads_within, lambda: [system(), "late", 3]),
    (compared, lambda: [system(), endless(), "late"]),
    (free_of_gaps, lambda: [system()]),
    (plain_states, lambda: [system()]),
    (stuck, lambda: [two(REVERSE, LOCKER)]),
    (plain_fault, lambda: [system(), plain_states(system())]),
    (plain_fault, lambda: [system(), plain_states(system())[:5] * 2]),
    (write_system, lambda: [system()]),
    (read_system, lambda: [write_system(system())]),
    (write_schedule, lambda: [[(0, 0), (1, 1), ("crash",)]]),
    (read_schedule, lambda: ["0 1n crash"]),
)


def plain(value):
    """A copy that can be compared, of objects of the interface too."""
    if isinstance(value, (list, tuple)):
        return [value.__class__.__name__] + [plain(item) for item in value]
    if isinstance(value, dict):
        return {key: plain(item) for key, item in value.items()}
    if isinstance(value, (Script, Kind, System, Reader)) or value.__class__.__name__ == "Record":
        return [value.__class__.__name__, plain(vars(value))]
    return value


def spoil(value):
    """Changes all lists and dicts in a result."""
    if isinstance(value, (list, tuple)):
        for item in value:
            spoil(item)
    if isinstance(value, list):
        value.append("spoiled")
    if isinstance(value, dict):
        for item in value.values():
            spoil(item)
        value.clear()


class Interface(unittest.TestCase):
    def test_modules(self):
        for module, names in INTERFACE.items():
            found = importlib.import_module("takenahead." + module)
            tree = ast.parse(inspect.getsource(found))
            defined = [node.name for node in tree.body if isinstance(node, (ast.FunctionDef, ast.ClassDef))]
            for name in names.split():
                self.assertIn(name, defined)
                self.assertEqual(getattr(found, name).__module__, "takenahead." + module)

    def test_methods(self):
        for path, names in METHODS.items():
            module, name = path.split(".")
            found = getattr(importlib.import_module("takenahead." + module), name)
            for method in names.split():
                self.assertIn(method, vars(found), path)

    def test_package(self):
        folder = pathlib.Path(takenahead.__file__).parent
        self.assertEqual([path.name for path in folder.iterdir() if path.suffix not in (".py", "")], [])


class Arguments(unittest.TestCase):
    """Point 2: no function modifies its arguments, and what it returns is new."""

    def test_arguments_stay(self):
        for number, (call, arguments) in enumerate(CALLS):
            with self.subTest(number):
                values = arguments()
                before = plain(values)
                call(*values)
                # What a reader has told is the one thing that may be another.
                if not isinstance(values[0], Reader):
                    self.assertEqual(plain(values), before)
                else:
                    self.assertEqual(plain(values[1:]), plain(arguments()[1:]))

    def test_results_are_new(self):
        for number, (call, arguments) in enumerate(CALLS):
            with self.subTest(number):
                values = arguments()
                first = call(*copy.deepcopy(values))
                kept = plain(first)
                spoil(first)
                self.assertEqual(plain(call(*copy.deepcopy(values))), kept)
                # The same objects as arguments, after a change of the result.
                if not isinstance(values[0], Reader):
                    spoil(call(*values))
                    self.assertEqual(plain(call(*values)), kept)

    def test_nothing_is_kept_between_calls(self):
        # Calls for other systems in between have no effect.
        expected = [plain(call(*arguments())) for call, arguments in CALLS]
        for found in SYSTEMS[:4]:
            for measure in MEASURES:
                certificate(found, measure)
                loop(found, measure)
        self.assertEqual([plain(call(*arguments())) for call, arguments in reversed(CALLS)], expected[::-1])


class Measures(unittest.TestCase):
    """Point 19: no measure, before any other error."""

    def test_each_function(self):
        for measure in list(NO_NUMBERS) + ["", "Gap", b"gap", ("gap",), ["gap"]]:
            for call, values in (
                (start, (BIG, measure)),
                (steps, (BIG, measure, ("end",))),
                (reach, (BIG, measure)),
                (lambda *each: list(reached(*each)), (BIG, measure)),
                (greatest, (BIG, measure)),
                (witness, (BIG, measure, -1)),
                (shortest, (BIG, measure, -1)),
                (certificate, (BIG, measure)),
                (certificate_fault, (BIG, measure, {}, None)),
                (loop, (BIG, measure)),
                (loop_fault, (BIG, measure, [], [], [])),
                (blocks_within, (BIG, measure, -1)),
                (windows_within, (BIG, measure, -1)),
                (aheads_within, (BIG, measure, -1)),
                (compared, (BIG, BIG, measure)),
            ):
                with self.assertRaises(NoMeasure) as caught:
                    call(*values)
                self.assertIs(caught.exception.measure, measure)


class Together(unittest.TestCase):
    """What the points say of one and the same system."""

    def check_measure(self, found, measure):
        value = greatest(found, measure)
        prices = certificate(found, measure)
        lists = loop(found, measure)
        if value == ("endless",):
            self.assertIsNone(prices)
            self.assertIsNone(loop_fault(found, measure, *lists))
            schedule = turned(*lists, 30)
            self.assertGreaterEqual(VALUE_OF[measure](run(found, schedule)), 30)
        else:
            most = value[1] if value[0] == "most" else None
            self.assertIsNone(lists)
            self.assertIsNone(certificate_fault(found, measure, prices, most))
            schedule = witness(found, measure, most or 0)
            self.assertEqual(schedule is None, most is None)
            if schedule is not None:
                self.assertEqual(VALUE_OF[measure](run(found, schedule)), most)
        if schedule is not None:
            self.assertEqual(read_schedule(write_schedule(schedule)), schedule)

    def check_readers(self, found):
        value = greatest(found, "late")
        if value == ("endless",):
            self.assertRaises(Endless, least_lag, found)
            least = 101
        else:
            least = least_lag(found)
        for lag in (0, least - 1, least):
            if 0 <= lag <= 100:
                pair = losing(found, lag)
                self.assertEqual(pair is None, lag >= least)
                if pair is not None:
                    schedule, polls = pair
                    self.assertTrue(missed(found, schedule, polls, lag))
                    self.assertGreater(late(run(found, schedule)), lag)

    def check_stuck(self, found):
        schedule = stuck(found)
        fault = plain_fault(found, plain_states(found))
        self.assertEqual(schedule is None, fault is None)
        if schedule is not None:
            self.assertEqual(fault[0], "stuck")
            running = Running(found)
            running.trial(schedule)
            for step in schedule:
                running(step)
            self.assertEqual(running.waits(), list(range(len(found.sessions))))

    def test_systems(self):
        for number, found in enumerate(SYSTEMS + (system(), endless(), one(*MAYBE, block=3, window=4))):
            with self.subTest(number):
                again = read_system(write_system(found))
                self.assertEqual(again, found)
                for measure in MEASURES:
                    self.assertEqual(greatest(again, measure), greatest(found, measure))
                    self.check_measure(found, measure)
                    self.assertEqual(compared(found, again, measure), "same")
                self.assertEqual(free_of_gaps(found), greatest(found, "gap") in (("none",), ("most", 0)))
                self.check_readers(found)
                self.check_stuck(found)


if __name__ == "__main__":
    unittest.main()
