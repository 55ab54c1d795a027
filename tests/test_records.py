"""Points 2 and 15 to 18: records and their measures."""

import inspect
import unittest

from takenahead.records import Record, gap, gaps, late, spread
from takenahead.schedules import Running, run
from takenahead.systems import Kind, System

TAKE, COMMIT, ROLLBACK, DROP = ("take",), ("commit",), ("rollback",), ("drop",)
CRASH = ("crash",)
END = ("choose", (COMMIT,), ())
# Commits its number with the answer 0, loses it with the answer 1.
MAYBE = (TAKE, END)
GOOD = [(0, 0), (0, 0), (0, 0)]
BAD = [(0, 0), (0, 1)]


def one(*script, block=1, **values):
    return System(Kind("web", script, block=block), **values)


def many(script, count, block=1, **values):
    return System(Kind("web", script, block=block, many=count), **values)


class Interface(unittest.TestCase):
    def test_signatures(self):
        for call in (gaps, gap, late, spread):
            self.assertEqual(str(inspect.signature(call)), "(record)")

    def test_defined_here(self):
        for value in (Record, gaps, gap, late, spread):
            self.assertEqual(value.__module__, "takenahead.records")

    def test_attributes(self):
        record = run(one(TAKE, COMMIT), [])
        for name in ("commits", "lost", "out", "height", "noted", "crashes", "spread"):
            self.assertIn(name, vars(record))


class Records(unittest.TestCase):
    """Point 15."""

    def test_example(self):
        system = one(TAKE, COMMIT, block=2, ahead=1, crashes=1)
        record = run(system, [(0, 0), (0, 0), CRASH, (0, 0)])
        self.assertEqual(record.commits, [(0, (0,))])
        self.assertEqual(record.lost, [1, 2])
        self.assertEqual(record.out, {3: 0, 4: 0})
        self.assertEqual((record.height, record.noted, record.crashes), (5, 6, 0))

    def test_kinds_of_values(self):
        record = run(one(TAKE, TAKE, COMMIT, DROP, block=3), [(0, 0)] * 5)
        self.assertEqual((type(record.commits), type(record.lost), type(record.out)), (list, list, dict))
        self.assertEqual((type(record.commits[0]), type(record.commits[0][1])), (tuple, tuple))
        self.assertEqual(record.commits, [(0, (0, 1))])

    def test_order_of_the_commits(self):
        system = many((TAKE, COMMIT), 3)
        record = run(system, [(2, 0), (0, 0), (1, 0), (1, 0), (2, 0), (0, 0)])
        self.assertEqual(record.commits, [(1, (2,)), (2, (0,)), (0, (1,))])

    def test_numbers_of_a_commit_ascend(self):
        # The second session takes a block between those of the first one.
        system = many((TAKE, TAKE, COMMIT), 2)
        record = run(system, [(0, 0), (1, 0), (0, 0), (0, 0), (1, 0), (1, 0)])
        self.assertEqual(record.commits, [(0, (0, 2)), (1, (1, 3))])

    def test_lost_ascends(self):
        system = many((TAKE, ROLLBACK), 3)
        record = run(system, [(0, 0), (1, 0), (2, 0), (2, 0), (0, 0), (1, 0)])
        self.assertEqual(record.lost, [0, 1, 2])
        system = many((TAKE, DROP, ROLLBACK), 2, block=2)
        self.assertEqual(run(system, [(0, 0), (1, 0), (1, 0), (1, 0), (0, 0)]).lost, [1, 2, 3])

    def test_out(self):
        system = many((TAKE, TAKE, COMMIT), 2, block=2)
        record = run(system, [(1, 0), (0, 0), (0, 0)])
        self.assertEqual(record.out, {0: 1, 1: 1, 2: 0, 3: 0})

    def test_later_steps_do_not_change_it(self):
        running = Running(one(TAKE, COMMIT, block=2, ahead=1, crashes=1))
        running((0, 0))
        record = running.record()
        self.assertIsNot(running.record(), record)
        for step in ((0, 0), CRASH, (0, 0)):
            running(step)
        self.assertEqual((record.commits, record.lost, record.out), ([], [], {0: 0, 1: 0}))
        self.assertEqual((record.height, record.noted, record.crashes, record.spread), (2, 3, 1, 2))


class Gaps(unittest.TestCase):
    """Point 16."""

    def assert_gaps(self, system, schedule, greatest, pairs):
        record = run(system, schedule)
        self.assertEqual(gap(record), greatest)
        self.assertIs(type(gap(record)), type(greatest))
        self.assertEqual(gaps(record), pairs)
        self.assertIs(type(gaps(record)), list)

    def test_none(self):
        system = one(*MAYBE)
        for schedule in ([], [(0, 0)], BAD, GOOD, GOOD + BAD, BAD + GOOD, BAD + GOOD + BAD, BAD + BAD):
            self.assert_gaps(system, schedule, None, [])

    def test_no_number_between(self):
        system = one(*MAYBE)
        self.assert_gaps(system, GOOD + GOOD, 0, [])
        self.assert_gaps(system, BAD + GOOD + GOOD + GOOD + BAD, 0, [])
        self.assert_gaps(one(TAKE, TAKE, COMMIT), [(0, 0)] * 3, 0, [])

    def test_lost_between(self):
        system = one(*MAYBE)
        self.assert_gaps(system, GOOD + BAD + GOOD, 1, [(0, 2)])
        self.assert_gaps(system, GOOD + BAD * 4 + GOOD, 4, [(0, 5)])
        self.assert_gaps(
            system, BAD + GOOD + BAD + GOOD + GOOD + BAD * 3 + GOOD + BAD * 2 + GOOD + BAD,
            3, [(1, 3), (4, 8), (8, 11)],
        )

    def test_committed_between(self):
        # 0 and 2 are no pair: 1 is committed between them.
        self.assert_gaps(one(*MAYBE), GOOD * 3 + BAD + GOOD, 1, [(2, 4)])

    def test_out_between(self):
        system = many(MAYBE, 2)
        other = [(1, 0)]
        self.assert_gaps(system, GOOD + other + GOOD, None, [])
        self.assert_gaps(system, GOOD + BAD + other + BAD + GOOD, None, [])
        # The number that was out is lost: now it counts.
        self.assert_gaps(system, GOOD + BAD + other + BAD + GOOD + [(1, 1)], 3, [(0, 4)])
        # It is committed: it parts the gap.
        self.assert_gaps(
            system, GOOD + BAD + other + BAD + BAD + GOOD + [(1, 0), (1, 0)], 2, [(0, 2), (2, 5)],
        )
        # Another pair counts all the same.
        self.assert_gaps(system, GOOD + other + GOOD + GOOD, 0, [])
        self.assert_gaps(system, GOOD + other + GOOD + BAD + GOOD, 1, [(2, 4)])

    def test_out_in_a_store(self):
        system = System(Kind("a", MAYBE), Kind("b", (TAKE, COMMIT, DROP), block=2))
        middle = [(1, 0), (1, 0)]
        self.assert_gaps(system, GOOD + middle, 0, [])
        self.assert_gaps(system, GOOD + middle + GOOD, 0, [])
        self.assert_gaps(system, GOOD + middle + GOOD + [(1, 0)], 1, [(1, 3)])

    def test_out_below_and_above(self):
        system = many(MAYBE, 3)
        self.assert_gaps(system, [(1, 0)] + GOOD + BAD + GOOD + [(2, 0)], 1, [(1, 3)])

    def test_committed_in_another_order(self):
        system = many((TAKE, COMMIT), 3)
        schedule = [(0, 0), (1, 0), (2, 0), (2, 0), (0, 0)]
        self.assert_gaps(system, schedule, None, [])
        self.assert_gaps(system, schedule + [(1, 0)], 0, [])

    def test_skipped_numbers(self):
        system = one(TAKE, COMMIT, ahead=3, crashes=2)
        self.assert_gaps(system, [(0, 0), (0, 0), CRASH, CRASH, (0, 0), (0, 0)], 5, [(0, 6)])


class Lateness(unittest.TestCase):
    """Point 17."""

    def assert_late(self, system, schedule, expected):
        record = run(system, schedule)
        self.assertEqual(late(record), expected)
        self.assertIs(type(late(record)), type(expected))

    def test_none(self):
        system = many((TAKE, COMMIT), 2)
        self.assert_late(system, [], None)
        self.assert_late(system, [(0, 0)] * 2, None)
        self.assert_late(system, [(0, 0)] * 6, None)
        self.assert_late(system, [(0, 0), (1, 0), (0, 0), (1, 0)], None)
        # What is not committed at the end has no lateness.
        self.assert_late(system, [(0, 0), (1, 0), (1, 0)], None)

    def test_one_commit(self):
        # The numbers of one commit are committed together.
        self.assert_late(one(TAKE, TAKE, TAKE, COMMIT), [(0, 0)] * 8, None)

    def test_later_commit(self):
        system = many((TAKE, COMMIT), 2)
        self.assert_late(system, [(0, 0), (1, 0), (1, 0), (0, 0)], 1)
        for times in (1, 2, 5):
            self.assert_late(system, [(0, 0)] + [(1, 0)] * (2 * times) + [(0, 0)], times)

    def test_example(self):
        system = System(
            Kind("a", (TAKE, COMMIT), block=2), Kind("b", (TAKE, COMMIT), block=2), window=4,
        )
        self.assert_late(system, [(0, 0), (1, 0), (1, 0), (1, 0), (1, 0), (0, 0)], 3)

    def test_least_number_of_a_commit(self):
        system = many((TAKE, TAKE, COMMIT), 2)
        # 0 and 2 together after 1 and 3: 3 - 0.
        self.assert_late(system, [(0, 0), (1, 0), (0, 0), (1, 0), (1, 0), (0, 0)], 3)
        # 1 and 3 together after 0 and 2: 2 - 1.
        self.assert_late(system, [(0, 0), (1, 0), (0, 0), (1, 0), (0, 0), (1, 0)], 1)

    def test_greatest_of_several(self):
        system = many((TAKE, COMMIT), 3)
        # 1 and 2 before 0: 2 - 0, though 1 is committed between.
        self.assert_late(system, [(0, 0), (1, 0), (2, 0), (2, 0), (1, 0), (0, 0)], 2)
        self.assert_late(system, [(0, 0), (1, 0), (2, 0), (2, 0), (0, 0), (1, 0)], 2)
        # 2 - 1 comes first; 3 - 1 is no pair, 3 being committed later than 1; 3 - 0 is one.
        self.assert_late(system, [(0, 0), (1, 0), (2, 0), (2, 0), (1, 0), (2, 0), (2, 0), (0, 0)], 3)
        # A greater lateness in the past stays the greatest.
        self.assert_late(
            system, [(0, 0), (1, 0), (2, 0), (2, 0), (1, 0), (0, 0), (0, 0), (1, 0), (1, 0), (0, 0)], 2,
        )

    def test_lost_numbers_count_in_the_difference(self):
        system = many(MAYBE, 2)
        self.assert_late(system, [(1, 0)] + BAD * 3 + GOOD + [(1, 0), (1, 0)], 4)
        self.assert_late(system, [(1, 0)] + BAD * 3 + GOOD + [(1, 1)], None)


class Spread(unittest.TestCase):
    """Point 18."""

    def assert_spread(self, system, schedule, expected):
        record = run(system, schedule)
        self.assertEqual(spread(record), expected)
        self.assertEqual(record.spread, expected)
        self.assertIs(type(spread(record)), type(expected))

    def test_none(self):
        self.assert_spread(one(TAKE, COMMIT), [], None)
        self.assert_spread(one(COMMIT, DROP, crashes=1, ahead=2), [(0, 0), (0, 0), CRASH], None)

    def test_within_a_step(self):
        # The number is lost in the step in which it was taken.
        self.assert_spread(one(TAKE), [(0, 0)] * 3, None)
        # Of each block only the second number is out at the end of a step.
        self.assert_spread(one(TAKE, block=2), [(0, 0)], 1)
        self.assert_spread(one(TAKE, block=2), [(0, 0)] * 7, 1)
        self.assert_spread(one(TAKE, block=3), [(0, 0)] * 4, 2)

    def test_blocks(self):
        for block in (1, 2, 3):
            self.assert_spread(one(TAKE, COMMIT, block=block), [(0, 0)], block)
            self.assert_spread(one(TAKE, COMMIT, block=block), [(0, 0)] * 13, block)

    def test_while_a_number_is_out(self):
        system = many((TAKE, COMMIT), 2, block=2)
        self.assert_spread(system, [(0, 0)] + [(1, 0)] * 5, 6)
        # The greatest spread of all moments, not that of the last one.
        self.assert_spread(system, [(0, 0)] + [(1, 0)] * 5 + [(0, 0), (1, 0)], 6)

    def test_numbers_in_a_store(self):
        system = System(Kind("a", (TAKE, COMMIT), block=2), Kind("b", (TAKE, COMMIT)))
        # 0 is committed, 1 is in the store.
        self.assert_spread(system, [(0, 0), (0, 0)] + [(1, 0)] * 5, 4)

    def test_crash(self):
        system = one(TAKE, COMMIT, ahead=4, crashes=1)
        self.assert_spread(system, [(0, 0), CRASH], 1)
        self.assert_spread(system, [(0, 0), CRASH, (0, 0)], 1)


if __name__ == "__main__":
    unittest.main()
