"""Points 2 and 10 to 14: what steps do, when a session waits, and systems at work."""

import inspect
import unittest

from odd import NO_NUMBERS, without
from takenahead.errors import BadStep, NoSession
from takenahead.records import Record
from takenahead.schedules import Running, run
from takenahead.systems import Kind, System

TAKE, COMMIT, ROLLBACK, DROP, LEAVE = ("take",), ("commit",), ("rollback",), ("drop",), ("leave",)
LOCK, UNLOCK = ("lock", "a"), ("unlock", "a")
CRASH = ("crash",)
STEP = (0, 0)
HUGE = 10 ** 6000


def choose(yes=(), no=()):
    return ("choose", yes, no)


def one(*script, block=1, **values):
    """A system of one session."""
    return System(Kind("web", script, block=block), **values)


def two(first, second, blocks=(1, 1), **values):
    """A system of two sessions with scripts of their own."""
    return System(Kind("one", first, block=blocks[0]), Kind("two", second, block=blocks[1]), **values)


def all_of(record):
    return (
        record.commits, record.lost, record.out, record.height, record.noted, record.crashes, record.spread,
    )


class ScheduleCase(unittest.TestCase):
    def assert_bad_step(self, index, call, *values):
        with self.assertRaises(BadStep) as caught:
            call(*values)
        self.assertEqual(caught.exception.index, index)
        self.assertIs(type(caught.exception.index), int)

    def assert_after(self, system, schedule, commits, lost, out, height):
        record = run(system, schedule)
        self.assertEqual((record.commits, record.lost, record.out, record.height), (commits, lost, out, height))
        return record


class Interface(unittest.TestCase):
    def test_signatures(self):
        for call, text in (
            (Running, "(system)"),
            (Running.can, "(self, session)"),
            (Running.waits, "(self)"),
            (Running.history, "(self)"),
            (Running.record, "(self)"),
            (Running.trial, "(self, schedule)"),
            (run, "(system, schedule)"),
        ):
            self.assertEqual(str(inspect.signature(call)), text)

    def test_defined_here(self):
        for value in (Running, run):
            self.assertEqual(value.__module__, "takenahead.schedules")
        for name in ("__call__", "__enter__", "__exit__", "can", "waits", "history", "record", "trial"):
            self.assertIn(name, vars(Running))

    def test_kinds_of_values(self):
        running = Running(one(TAKE, COMMIT))
        self.assertIsNone(running(STEP))
        self.assertIs(running.can(0), True)
        self.assertIs(type(running.waits()), list)
        self.assertIs(type(running.history()), list)
        for record in (running.record(), running.trial([]), run(one(TAKE), [])):
            self.assertIsInstance(record, Record)


class Statements(ScheduleCase):
    """Point 10."""

    def test_beginning(self):
        record = self.assert_after(one(TAKE, ahead=3, crashes=2), [], [], [], {}, 0)
        self.assertEqual((record.noted, record.crashes, record.spread), (3, 2, None))

    def test_take(self):
        system = one(TAKE, TAKE, COMMIT, block=3)
        self.assert_after(system, [STEP], [], [], {0: 0, 1: 0, 2: 0}, 3)
        # The second one comes from the store.
        self.assert_after(system, [STEP] * 2, [], [], {0: 0, 1: 0, 2: 0}, 3)
        # What is committed tells what is in the transaction: the least numbers of the store.
        self.assert_after(system, [STEP] * 3, [(0, (0, 1))], [], {2: 0}, 3)
        self.assert_after(system, [STEP] * 5, [(0, (0, 1))], [], {2: 0, 3: 0, 4: 0, 5: 0}, 6)
        self.assert_after(system, [STEP] * 6, [(0, (0, 1)), (0, (2, 3))], [], {4: 0, 5: 0}, 6)

    def test_blocks_of_the_kinds(self):
        system = two((TAKE, COMMIT), (TAKE, COMMIT), (2, 3))
        self.assert_after(system, [(1, 0), (0, 0)], [], [], {0: 1, 1: 1, 2: 1, 3: 0, 4: 0}, 5)

    def test_noted_height(self):
        for ahead, block, expected in (
            (0, 1, [0, 1, 2, 3, 4]),
            (0, 3, [0, 3, 6, 9, 12]),
            (1, 1, [1, 1, 3, 3, 5]),
            (2, 1, [2, 2, 2, 5, 5]),
            (2, 3, [2, 5, 8, 11, 14]),
            (4, 3, [4, 4, 10, 10, 16]),
            (4, 2, [4, 4, 4, 10, 10]),
        ):
            # Each turn of the script hands out one block.
            system = one(TAKE, DROP, block=block, ahead=ahead)
            for turns, noted in enumerate(expected):
                with self.subTest(ahead=ahead, block=block, turns=turns):
                    record = run(system, [STEP] * (2 * turns))
                    self.assertEqual((record.height, record.noted), (turns * block, noted))

    def test_noted_height_stays_if_nothing_is_handed_out(self):
        system = one(TAKE, TAKE, COMMIT, block=2, ahead=1)
        self.assertEqual([run(system, [STEP] * many).noted for many in range(5)], [1, 3, 3, 3, 5])

    def test_commit(self):
        system = one(TAKE, COMMIT, COMMIT, block=2)
        self.assert_after(system, [STEP] * 2, [(0, (0,))], [], {1: 0}, 2)
        # The second commit has nothing to commit, but it is a step.
        self.assert_after(system, [STEP] * 3, [(0, (0,))], [], {1: 0}, 2)
        self.assert_after(system, [STEP] * 5, [(0, (0,)), (0, (1,))], [], {}, 2)

    def test_commit_keeps_locks(self):
        running = Running(two((LOCK, COMMIT, DROP), (LOCK,)))
        running((0, 0))
        running((0, 0))
        self.assertEqual(running.waits(), [1])

    def test_rollback(self):
        system = two((LOCK, TAKE, TAKE, ROLLBACK, COMMIT, DROP), (LOCK,), (3, 1))
        self.assert_after(system, [STEP] * 4, [], [0, 1], {2: 0}, 3)
        # Nothing is left to commit, and the lock is held.
        self.assert_after(system, [STEP] * 5, [], [0, 1], {2: 0}, 3)
        self.assert_bad_step(4, run, system, [STEP] * 4 + [(1, 0)])

    def test_drop(self):
        system = two((LOCK, TAKE, DROP, COMMIT, DROP), (LOCK,), (3, 1))
        self.assert_after(system, [STEP] * 3, [], [1, 2], {0: 0}, 3)
        self.assert_after(system, [STEP] * 4, [(0, (0,))], [1, 2], {}, 3)
        self.assert_bad_step(3, run, system, [STEP] * 3 + [(1, 0)])
        # The next take needs a new block.
        self.assert_after(system, [STEP] * 7, [(0, (0,))], [1, 2], {3: 0, 4: 0, 5: 0}, 6)

    def test_leave(self):
        system = two((LOCK, TAKE, LEAVE, COMMIT), (LOCK, TAKE), (3, 1))
        self.assert_after(system, [STEP] * 3, [], [0, 1, 2], {}, 3)
        running = Running(system)
        for times in range(3):
            running(STEP)
        # The lock is released, and the script starts again with it.
        running((1, 0))
        self.assertEqual(running.waits(), [0])
        # What stands behind the leave is never reached.
        self.assert_after(one(TAKE, LEAVE, COMMIT), [STEP] * 6, [], [0, 1, 2], {}, 3)

    def test_leave_in_a_branch(self):
        system = one(TAKE, choose((LEAVE, COMMIT), (DROP,)), COMMIT, block=2)
        self.assert_after(system, [STEP] * 3, [], [0, 1], {}, 2)
        self.assert_after(system, [STEP] * 4, [], [0, 1], {2: 0, 3: 0}, 4)

    def test_lock_and_unlock(self):
        running = Running(two((UNLOCK, LOCK, LOCK, UNLOCK, DROP), (LOCK, DROP)))
        waiting = []
        for times in range(5):
            running((0, 0))
            waiting.append(running.waits())
        # The unlock of what is not held changes nothing, the second lock neither, one unlock suffices.
        self.assertEqual(waiting, [[], [1], [1], [], []])

    def test_unlock_of_another(self):
        running = Running(two((LOCK, DROP), (UNLOCK, LOCK)))
        running((0, 0))
        running((1, 0))
        # A session releases only its own locks.
        self.assertEqual(running.waits(), [1])

    def test_several_locks(self):
        first = (("lock", "b"), ("lock", "a"), ("unlock", "b"), DROP)
        for name, expected in (("a", [[], [1], [1], []]), ("b", [[1], [1], [], []])):
            running = Running(two(first, (("lock", name), DROP)))
            waiting = []
            for times in range(4):
                running((0, 0))
                waiting.append(running.waits())
            self.assertEqual(waiting, expected)

    def test_choose(self):
        system = one(TAKE, choose((COMMIT,), (ROLLBACK,)), DROP, block=2)
        for answer, commits, lost in ((0, [(0, (0,))], []), (1, [], [0])):
            self.assert_after(system, [STEP, (0, answer)], [], [], {0: 0, 1: 0}, 2)
            self.assert_after(system, [STEP, (0, answer), STEP], commits, lost, {1: 0}, 2)
            self.assert_after(system, [STEP, (0, answer), STEP, STEP], commits, lost + [1], {}, 2)

    def test_choose_with_an_empty_branch(self):
        system = one(TAKE, choose((DROP,), ()), COMMIT, block=2)
        self.assert_after(system, [STEP, (0, 1), STEP], [(0, (0,))], [], {1: 0}, 2)
        self.assert_after(system, [STEP, (0, 0), STEP, STEP], [(0, (0,))], [1], {}, 2)

    def test_choose_in_choose(self):
        system = one(TAKE, choose((), (choose((ROLLBACK,), (COMMIT,)),)), DROP, block=2)
        self.assert_after(system, [STEP, (0, 1), (0, 1), STEP], [(0, (0,))], [], {1: 0}, 2)
        self.assert_after(system, [STEP, (0, 1), (0, 0), STEP], [], [0], {1: 0}, 2)
        self.assert_after(system, [STEP, (0, 0), STEP], [], [0, 1], {}, 2)

    def test_end_of_the_script(self):
        system = two((LOCK, TAKE, DROP), (LOCK, TAKE), (2, 1))
        running = Running(system)
        for times in range(3):
            running((0, 0))
        self.assertEqual(all_of(running.record())[:4], ([], [0, 1], {}, 2))
        # The locks are released, and the script starts again.
        self.assertEqual(running.waits(), [])
        running((0, 0))
        self.assertEqual(running.waits(), [1])

    def test_end_of_the_script_keeps_the_store(self):
        system = one(TAKE, TAKE, COMMIT, TAKE, block=3)
        record = self.assert_after(system, [STEP] * 4, [(0, (0, 1))], [2], {}, 3)
        self.assertEqual(record.spread, 3)
        system = one(TAKE, choose(), block=3)
        self.assert_after(system, [STEP] * 2, [], [0], {1: 0, 2: 0}, 3)
        self.assert_after(system, [STEP] * 3, [], [0], {1: 0, 2: 0}, 3)
        self.assert_after(system, [STEP] * 4, [], [0, 1], {2: 0}, 3)

    def test_end_of_the_script_in_the_same_step(self):
        # The take, the commit, the lock and the choose end the script by themselves.
        self.assert_after(one(TAKE, block=2), [STEP], [], [0], {1: 0}, 2)
        self.assert_after(one(TAKE), [STEP] * 3, [], [0, 1, 2], {}, 3)
        self.assert_after(one(TAKE, COMMIT), [STEP] * 2, [(0, (0,))], [], {}, 1)
        self.assert_after(one(TAKE, choose((COMMIT,), ())), [STEP, (0, 1)], [], [0], {}, 1)
        self.assert_after(one(TAKE, choose((COMMIT,), ())), [STEP, STEP, STEP], [(0, (0,))], [], {}, 1)
        self.assertEqual(run(two((LOCK,), (LOCK,)), [(0, 0), (1, 0), (0, 0)]).height, 0)

    def test_many_steps(self):
        times = 3000
        record = run(one(TAKE, COMMIT, block=3), [STEP] * (2 * times))
        self.assertEqual(record.commits, [(0, (number,)) for number in range(times)])
        self.assertEqual((record.lost, record.out, record.height), ([], {}, times))


class Waiting(ScheduleCase):
    """Point 11."""

    def test_lock(self):
        running = Running(System(Kind("web", (LOCK, DROP), many=3)))
        self.assertEqual(running.waits(), [])
        running((1, 0))
        self.assertEqual(running.waits(), [0, 2])
        self.assertEqual([running.can(session) for session in range(3)], [False, True, False])
        for session in (0, 2):
            self.assert_bad_step(1, running, (session, 0))
        running((1, 0))
        self.assertEqual(running.waits(), [])
        running((0, 0))
        self.assertEqual(running.waits(), [1, 2])

    def test_own_lock(self):
        running = Running(two((LOCK, LOCK), (DROP,)))
        running((0, 0))
        self.assertEqual(running.waits(), [])
        running((0, 0))

    def test_lock_of_another_name(self):
        running = Running(two((LOCK, DROP), (("lock", "b"), DROP)))
        running((0, 0))
        self.assertEqual(running.waits(), [])

    def test_only_a_lock_waits_for_a_lock(self):
        for statement in (TAKE, COMMIT, ROLLBACK, DROP, LEAVE, UNLOCK, choose((LOCK,), ())):
            running = Running(two((LOCK, DROP), (statement, DROP)))
            running((0, 0))
            self.assertEqual(running.waits(), [])

    def test_stuck(self):
        running = Running(two((LOCK, ("lock", "b")), (("lock", "b"), LOCK)))
        running((0, 0))
        running((1, 0))
        self.assertEqual(running.waits(), [0, 1])
        self.assertEqual([running.can(0), running.can(1)], [False, False])

    def test_window_example(self):
        running = Running(two((TAKE, COMMIT), (TAKE, COMMIT), (2, 2), window=4))
        for step in ((0, 0), (1, 0), (1, 0), (1, 0), (1, 0)):
            running(step)
        # 4 + 2 - 0 > 4
        self.assertEqual(running.waits(), [1])
        self.assert_bad_step(5, running, (1, 0))
        running((0, 0))
        # 4 + 2 - 1 > 4: the number in the store of the other session.
        self.assertEqual(running.waits(), [1])
        running((0, 0))
        # 4 + 2 - 1 > 4: now in its transaction; the session itself goes on with its store.
        self.assertEqual(running.waits(), [1])
        running((0, 0))
        self.assertEqual(running.waits(), [])

    def test_window_with_own_numbers(self):
        for window, takes in ((1, 1), (2, 2), (3, 3)):
            running = Running(one(TAKE, TAKE, TAKE, COMMIT, window=window))
            for times in range(takes):
                self.assertEqual(running.waits(), [])
                running(STEP)
            self.assertEqual(running.waits(), [] if takes == 3 else [0])
        running = Running(one(TAKE, TAKE, TAKE, COMMIT, block=2, window=3))
        running(STEP)
        running(STEP)
        # 2 + 2 - 0 > 3, and the store is empty.
        self.assertEqual(running.waits(), [0])

    def test_window_exactly(self):
        script = (TAKE, TAKE, COMMIT)
        for window, waits in ((2, True), (3, True), (4, False), (None, False)):
            system = two(script, script, (2, 2), window=window)
            running = Running(system)
            running((0, 0))
            self.assertEqual(running.waits(), [1] if waits else [])
            # The store of the first one is not empty.
            self.assertTrue(running.can(0))

    def test_window_with_several_blocks(self):
        running = Running(two((TAKE, COMMIT), (TAKE, COMMIT), (1, 3), window=3))
        running((0, 0))
        # 1 + 3 - 0 > 3 for the block 3, while one number would fit.
        self.assertEqual(running.waits(), [1])
        running((0, 0))
        running((1, 0))
        # 3 + 3 of the height count from the least number that is out.
        self.assertEqual(running.waits(), [0])

    def test_window_without_numbers_out(self):
        running = Running(one(TAKE, COMMIT, window=1))
        for times in range(20):
            self.assertEqual(running.waits(), [])
            running(STEP)

    def test_window_and_other_statements(self):
        for statement in (COMMIT, ROLLBACK, DROP, LEAVE, UNLOCK, LOCK, choose()):
            running = Running(two((TAKE, DROP), (statement, DROP), window=1))
            running((0, 0))
            self.assertEqual(running.waits(), [])


class Crashes(ScheduleCase):
    """Point 12."""

    def test_example(self):
        system = one(TAKE, COMMIT, block=2, ahead=1, crashes=1)
        record = run(system, [STEP, STEP, CRASH, STEP])
        self.assertEqual(all_of(record), ([(0, (0,))], [1, 2], {3: 0, 4: 0}, 5, 6, 0, 2))

    def test_reserve(self):
        system = one(TAKE, COMMIT, ahead=4, crashes=2)
        # The first take leaves a reserve of 3: the numbers 1, 2 and 3 are skipped.
        record = self.assert_after(system, [STEP, STEP, CRASH], [(0, (0,))], [1, 2, 3], {}, 4)
        self.assertEqual((record.noted, record.crashes), (8, 1))
        record = self.assert_after(system, [STEP, CRASH, STEP, CRASH], [], [0, 1, 2, 3, 4, 5, 6, 7], {}, 8)
        self.assertEqual((record.noted, record.crashes), (12, 0))

    def test_at_the_beginning(self):
        record = self.assert_after(one(TAKE, ahead=2, crashes=2), [CRASH, CRASH], [], [0, 1, 2, 3], {}, 4)
        self.assertEqual((record.noted, record.crashes, record.spread), (6, 0, None))
        record = self.assert_after(one(TAKE, crashes=1), [CRASH], [], [], {}, 0)
        self.assertEqual(record.noted, 0)

    def test_without_a_reserve(self):
        record = self.assert_after(one(TAKE, DROP, block=3, crashes=1), [STEP, CRASH], [], [0, 1, 2], {}, 3)
        self.assertEqual(record.noted, 3)

    def test_all_sessions(self):
        system = two((LOCK, TAKE, COMMIT), (TAKE, TAKE, LOCK), (2, 3), crashes=1)
        running = Running(system)
        for step in ((0, 0), (1, 0), (0, 0), (1, 0)):
            running(step)
        self.assertEqual(running.waits(), [1])
        running(CRASH)
        self.assertEqual(all_of(running.record())[:4], ([], [0, 1, 2, 3, 4], {}, 5))
        # The locks are released, and both scripts start again.
        self.assertEqual(running.waits(), [])
        running((1, 0))
        self.assertEqual(running.record().out, {5: 1, 6: 1, 7: 1})
        running((0, 0))
        self.assertEqual(running.record().out, {5: 1, 6: 1, 7: 1})
        running((0, 0))
        self.assertEqual(running.record().out, {5: 1, 6: 1, 7: 1, 8: 0, 9: 0})

    def test_committed_numbers_stay(self):
        self.assert_after(one(TAKE, COMMIT, crashes=1), [STEP, STEP, CRASH], [(0, (0,))], [], {}, 1)

    def test_no_crash_left(self):
        self.assert_bad_step(0, run, one(TAKE), [CRASH])
        self.assert_bad_step(2, run, one(TAKE, crashes=1), [CRASH, STEP, CRASH])
        self.assert_bad_step(2, run, one(TAKE, crashes=2), [CRASH, CRASH, CRASH])
        running = Running(one(TAKE, crashes=1))
        running(CRASH)
        self.assert_bad_step(1, running, CRASH)

    def test_waiting_does_not_matter(self):
        running = Running(one(TAKE, TAKE, window=1, crashes=1))
        running(STEP)
        self.assertEqual(running.waits(), [0])
        running(CRASH)
        self.assertEqual(running.waits(), [])


# What is not a step that a session of two at a take can execute.
NO_STEPS = without(tuple) + [
    (), (0,), (0, 0, 0), ("crash", 0), (0, "crash"), ("crash", "crash"), ("stop",), ("Crash",), ("crash ",),
    (b"crash",), (("crash",),), (True, 0), (False, 0), (0, False), (0, True), (True, False), (0.0, 0), (0, 0.0),
    (1.0, 0), ("0", 0), (0, "0"), (None, 0), (0, None), (None, None), [0, 0], ["crash"], "crash", "00", (2, 0), (3, 0),
    (-1, 0), (-2, 0), (HUGE, 0), (-HUGE, 0), (0, 1), (0, -1), (0, 2), (0, HUGE), ((0,), 0), (0, (0,)), ((0, 0),),
    ([0], 0), (0, [0]), ({}, 0), (0, {}), {0: 0}, range(2),
] + [(value, 0) for value in NO_NUMBERS] + [(0, value) for value in NO_NUMBERS] + [(value,) for value in NO_NUMBERS]

NO_LISTS = without(list) + [(), ((0, 0),), "", (0, 0), CRASH, iter([]), range(0)]


class Steps(ScheduleCase):
    """Points 13 and 14: what is no step."""

    def setUp(self):
        self.system = two((TAKE, COMMIT), (TAKE, choose(), COMMIT))
        self.running = Running(self.system)
        self.running((0, 0))
        self.running((1, 0))
        self.running((0, 0))
        self.before = all_of(self.running.record())

    def assert_unchanged(self):
        self.assertEqual(all_of(self.running.record()), self.before)
        self.assertEqual(self.running.history(), [(0, 0), (1, 0), (0, 0)])
        self.assertEqual(self.running.waits(), [])

    def test_refused(self):
        for step in NO_STEPS + [CRASH]:
            self.assert_bad_step(3, self.running, step)
            self.assert_bad_step(0, self.running.trial, [step])
            self.assert_bad_step(1, self.running.trial, [(0, 0), step, (0, 0)])
            self.assert_bad_step(0, run, self.system, [step])
            self.assert_bad_step(2, run, self.system, [(0, 0), (1, 0), step, None])
        self.assert_unchanged()

    def test_refused_with_a_crash_left(self):
        system = two((TAKE, COMMIT), (TAKE, COMMIT), crashes=1)
        running = Running(system)
        for step in NO_STEPS:
            self.assert_bad_step(0, running, step)
            self.assert_bad_step(1, run, system, [(0, 0), step])
            self.assert_bad_step(2, running.trial, [(1, 0), (0, 0), step])
        self.assertEqual((running.history(), running.record().crashes), ([], 1))
        running(("".join(["cr", "ash"]),))

    def test_refused_at_a_choose(self):
        wrong = [True, False, -1, 2, HUGE] + list(NO_NUMBERS)
        for answer in wrong:
            self.assert_bad_step(3, self.running, (1, answer))
            self.assert_bad_step(0, self.running.trial, [(1, answer)])
        self.assert_unchanged()
        self.running((1, 1))
        self.assert_bad_step(4, self.running, (1, 1))

    def test_answers_of_other_statements(self):
        for statement in (TAKE, COMMIT, ROLLBACK, DROP, LEAVE, LOCK, UNLOCK):
            self.assert_bad_step(0, run, one(statement), [(0, 1)])
            run(one(statement), [(0, 0)])

    def test_no_list(self):
        for schedule in NO_LISTS:
            self.assert_bad_step(-1, run, self.system, schedule)
            self.assert_bad_step(-1, self.running.trial, schedule)
        self.assert_unchanged()

    def test_waiting(self):
        system = two((LOCK, DROP), (LOCK, DROP))
        self.assert_bad_step(1, run, system, [(0, 0), (1, 0)])
        running = Running(system)
        running((1, 0))
        self.assert_bad_step(1, running, (0, 0))
        self.assert_bad_step(0, running.trial, [(0, 0)])
        self.assert_bad_step(2, running.trial, [(1, 0), (1, 0), (0, 1)])
        running.trial([(1, 0), (0, 0)])

    def test_going_on_after_an_error(self):
        self.assert_bad_step(3, self.running, (1, 2))
        self.running((1, 0))
        self.assert_bad_step(4, self.running, (1, 2))
        self.assertEqual(self.running.history(), [(0, 0), (1, 0), (0, 0), (1, 0)])

    def test_argument_stays(self):
        schedule = [(0, 0), (1, 0), (1, 1)]
        run(self.system, schedule)
        Running(self.system).trial(schedule)
        self.assertEqual(schedule, [(0, 0), (1, 0), (1, 1)])


class AtWork(ScheduleCase):
    """Point 14."""

    def setUp(self):
        self.system = two((TAKE, COMMIT), (LOCK, TAKE, COMMIT), (2, 3), ahead=1, window=6, crashes=1)
        self.running = Running(self.system)

    def state(self):
        running = self.running
        return (all_of(running.record()), running.history(), running.waits(), [running.can(0), running.can(1)])

    def test_can(self):
        for session in list(NO_NUMBERS) + [2, 3, -1, -2, HUGE, -HUGE]:
            with self.assertRaises(NoSession) as caught:
                self.running.can(session)
            self.assertIs(caught.exception.session, session)
        self.assertIs(self.running.can(0), True)
        running = Running(two((LOCK, DROP), (LOCK, DROP)))
        running((0, 0))
        self.assertIs(running.can(1), False)

    def test_history(self):
        self.assertEqual(self.running.history(), [])
        steps = [(0, 0), (1, 0), CRASH, (1, 0)]
        for step in steps:
            self.running(step)
        self.assertEqual(self.running.history(), steps)

    def test_what_is_returned_is_new(self):
        self.running((0, 0))
        before = self.state()
        self.running.history().append((1, 0))
        self.running.waits().append(1)
        record = self.running.record()
        record.commits.append((0, (7,)))
        record.lost.append(8)
        record.out[9] = 1
        record.out.pop(0)
        self.assertEqual(self.state(), before)
        self.running((0, 0))
        self.assertEqual(self.running.record().commits, [(0, (0,))])

    def test_earlier_results_stay(self):
        self.running((0, 0))
        history, waits, record = self.running.history(), self.running.waits(), self.running.record()
        tried = self.running.trial([(0, 0), (0, 0)])
        kept = (list(history), list(waits), all_of(record), all_of(tried))
        copies = (dict(record.out), list(record.lost), list(record.commits))
        for step in ((0, 0), (0, 0), (0, 0), CRASH, (1, 0)):
            self.running(step)
        self.assertEqual((history, waits, all_of(record), all_of(tried)), kept)
        self.assertEqual((record.out, record.lost, record.commits), copies)
        self.assertEqual(copies, ({0: 0, 1: 0}, [], []))
        self.assertEqual((tried.out, tried.commits), ({1: 0}, [(0, (0,))]))

    def test_two_objects(self):
        other = Running(self.system)
        other((0, 0))
        self.assertEqual(self.running.history(), [])
        self.assertEqual(self.running.record().height, 0)

    def test_trial(self):
        self.running((0, 0))
        before = self.state()
        record = self.running.trial([(0, 0), (1, 0), (1, 0), CRASH])
        self.assertEqual(all_of(record), ([(0, (0,))], [1, 2, 3, 4, 5], {}, 6, 7, 0, 4))
        self.assertEqual(self.state(), before)
        self.assertEqual(all_of(self.running.trial([])), before[0])

    def test_trial_and_run(self):
        schedule = [(0, 0), (1, 0), (1, 0), (1, 0), CRASH, (0, 0)]
        for cut in range(len(schedule) + 1):
            running = Running(self.system)
            for step in schedule[:cut]:
                running(step)
            self.assertEqual(all_of(running.trial(schedule[cut:])), all_of(run(self.system, schedule)))
            self.assertEqual(running.history(), schedule[:cut])

    def test_trial_keeps_the_noted_height(self):
        # With this ahead the reserve before the trial is another one than that of the beginning.
        system = one(TAKE, COMMIT, ahead=4, crashes=1)
        running = Running(system)
        running(STEP)
        self.assertEqual((running.trial([]).noted, running.trial([CRASH]).lost), (4, [0, 1, 2, 3]))
        self.assertEqual(running.record().noted, 4)

    def test_trial_with_an_error(self):
        self.running((1, 0))
        before = self.state()
        self.assert_bad_step(3, self.running.trial, [(1, 0), (1, 0), CRASH, CRASH])
        self.assert_bad_step(0, self.running.trial, [(2, 0)])
        self.assert_bad_step(-1, self.running.trial, ((0, 0),))
        self.assertEqual(self.state(), before)

    def test_with(self):
        self.running((0, 0))
        before = self.state()
        with self.running as same:
            self.assertIs(same, self.running)
            self.assertEqual(self.state(), before)
            for step in ((0, 0), (1, 0), (1, 0), CRASH, (1, 0)):
                self.running(step)
            self.assertEqual(len(self.running.history()), 6)
            self.assertNotEqual(self.state(), before)
            # The index counts the steps before the block, too.
            self.assert_bad_step(6, self.running, CRASH)
        self.assertEqual(self.state(), before)
        self.assert_bad_step(1, self.running, None)
        self.running((0, 0))
        self.assertEqual(self.running.history(), [(0, 0), (0, 0)])

    def test_with_an_error(self):
        self.running((0, 0))
        before = self.state()
        with self.assertRaises(ZeroDivisionError):
            with self.running:
                self.running((0, 0))
                raise ZeroDivisionError
        self.assertEqual(self.state(), before)
        with self.assertRaises(BadStep):
            with self.running:
                self.running(CRASH)
                self.running(CRASH)
        self.assertEqual(self.state(), before)

    def test_left_by_return(self):
        def work():
            with self.running:
                self.running((1, 0))
                return self.running.history()

        self.assertEqual(work(), [(1, 0)])
        self.assertEqual(self.running.history(), [])

    def test_nested(self):
        self.running((0, 0))
        states = [self.state()]
        with self.running:
            self.running((0, 0))
            states.append(self.state())
            with self.running as same:
                self.assertIs(same, self.running)
                self.running((1, 0))
                states.append(self.state())
                with self.assertRaises(KeyError):
                    with self.running:
                        self.running(CRASH)
                        raise KeyError
                self.assertEqual(self.state(), states.pop())
                self.running.trial([(1, 0), (1, 0)])
                self.running((1, 0))
            self.assertEqual(self.state(), states.pop())
            self.running((0, 0))
            with self.running:
                self.running(CRASH)
        self.assertEqual(self.state(), states.pop())
        self.running((1, 0))
        self.assertEqual(self.running.history(), [(0, 0), (1, 0)])

    def test_one_block_after_another(self):
        for times in range(3):
            with self.running:
                self.running(CRASH)
            self.running((0, 0))
        self.assertEqual(self.running.history(), [(0, 0)] * 3)


if __name__ == "__main__":
    unittest.main()
