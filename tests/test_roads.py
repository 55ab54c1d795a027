"""Points 10 to 28 on whole systems: schedules and states against the slow program in model.py, and point 27."""

import unittest

from model import Model
from samples import MEASURES, SYSTEMS, VALUE_OF
from takenahead.schedules import Running, run
from takenahead.states import reached, start, steps


class Schedules(unittest.TestCase):
    def check(self, system, model, schedule, left):
        """Compares all schedules that go on from `schedule` with up to `left` steps."""
        record = run(system, schedule)
        self.assertEqual(record.commits, model.commits)
        self.assertEqual(record.lost, sorted(model.lost))
        self.assertEqual(
            record.out,
            {
                number: session
                for session in range(model.many)
                for number in model.transactions[session] | model.stores[session]
            },
        )
        self.assertEqual(
            (record.height, record.noted, record.crashes, record.spread),
            (model.height, model.noted, model.crashes, model.spread),
        )
        running = Running(system)
        half = len(schedule) // 2
        for step in schedule[:half]:
            running(step)
        self.assertEqual(vars(running.trial(schedule[half:])), vars(record))
        for step in schedule[half:]:
            running(step)
        self.assertEqual(vars(running.record()), vars(record))
        self.assertEqual(running.waits(), [session for session in range(model.many) if model.waits(session)])
        everything = sorted(record.lost + list(record.out) + list(model.committed()))
        self.assertEqual(everything, list(range(record.height)))
        if left:
            for step in model.possible():
                self.check(system, model.after(step), schedule + [step], left - 1)

    def test_all_short_schedules(self):
        for number, system in enumerate(SYSTEMS):
            with self.subTest(number):
                self.check(system, Model(system), [], 10 if len(system.sessions) == 1 else 6)


class States(unittest.TestCase):
    def check(self, system, measure):
        """Compares all steps of all states, and the states themselves."""
        first = Model(system)
        self.assertEqual(start(system, measure), first.state(None, None))
        found = {first.state(None, None): (first, None, None)}
        waiting = list(found)
        while waiting:
            state = waiting.pop()
            if state == ("end",):
                self.assertEqual(steps(system, measure, state), [])
                continue
            model, a, b = found[state]
            rows = model.items(measure, a, b)
            self.assertEqual(steps(system, measure, state), [row[0] for row in rows])
            for item, *behind in rows:
                if item[2] not in found:
                    found[item[2]] = behind
                    waiting.append(item[2])
        states = list(reached(system, measure))
        self.assertEqual(len(states), len(found))
        self.assertEqual(set(states), set(found))

    def test_all_states(self):
        for number, system in enumerate(SYSTEMS):
            for measure in MEASURES:
                with self.subTest(number, measure=measure):
                    self.check(system, measure)


class Roads(unittest.TestCase):
    """Point 27."""

    def check(self, system, measure, roads, schedule, left, best):
        """Compares the values of all records with the sums of the roads of the same steps.

        `roads` has the greatest sum of a road to each state, `best` is the greatest sum that a road to the end had
        on the way.
        """
        sums = [
            total for state, total in roads.items()
            if (("stop",), (None, None), ("end",), 0) in steps(system, measure, state)
        ]
        value = VALUE_OF[measure](run(system, schedule))
        for total in sums:
            self.assertLessEqual(total, value)
        # The greatest spread may lie before the end of the schedule.
        if measure == "spread" and best is not None:
            sums.append(best)
        best = max(sums, default=None)
        self.assertEqual(best, value)
        if not left:
            return
        following = {}
        for state, total in roads.items():
            for step, offsets, result, gain in steps(system, measure, state):
                if step != ("stop",):
                    sums = following.setdefault(step, {})
                    sums[result] = max(total + gain, sums.get(result, 0))
        for step, sums in following.items():
            self.check(system, measure, sums, schedule + [step], left - 1, best)

    def test_all_short_schedules(self):
        for number, system in enumerate(SYSTEMS):
            for measure in MEASURES:
                with self.subTest(number, measure=measure):
                    roads = {start(system, measure): 0}
                    self.check(system, measure, roads, [], 9 if len(system.sessions) == 1 else 6, None)


if __name__ == "__main__":
    unittest.main()
