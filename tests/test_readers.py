"""Points 37 to 39: readers, what they tell, and what they miss."""

import copy
import inspect
import itertools
import unittest

from model import Model
from odd import NO_NUMBERS, Same, without
from samples import (
    BIG, COMMIT, CRASH, DROP, HUGE, LOCK, LOCKER, MAYBE, PAIR, ROLLBACK, SHORT, SYSTEMS, TAKE, one, two,
)
from takenahead.errors import BadLag, BadStep, Endless, NoPolls, TakeError, TooMany
from takenahead.measures import greatest
from takenahead.readers import Reader, least_lag, losing, missed, read
from takenahead.schedules import Running, run
from takenahead.states import reach
from takenahead.systems import Kind, System

# The first session takes 0, the second one takes and commits 2 and 3, then the first one commits 0.
SYSTEM = two(SHORT, SHORT, (2, 2), window=4)
LATE = [(0, 0), (1, 0), (1, 0), (1, 0), (1, 0), (0, 0)]
NO_LAGS = list(NO_NUMBERS) + [-1, 101, -2, 200, HUGE, -HUGE, "0", True, None]
NO_LISTS = without(list) + [(), (0,), "", range(1), iter([0]), True, None]


def slow_polls(records, lag):
    """What the polls of a reader tell, and the mark behind each of them: point 37 word by word."""
    told, mark, found = set(), 0, []
    for record in records:
        committed = {number for session, numbers in record.commits for number in numbers}
        new = sorted(number for number in committed if number >= mark and number not in told)
        told |= set(new)
        if told:
            mark = max(mark, max(told) - lag)
        found.append((new, mark, set(told)))
    return found


def short_schedules(system, longest):
    """All schedules with up to so many steps."""
    found = [([], Model(system))]
    for schedule, model in found:
        yield schedule
        if len(schedule) < longest:
            found += [(schedule + [step], model.after(step)) for step in model.possible()]


class ReaderCase(unittest.TestCase):
    def assert_wrong(self, error, name, value, call, *values):
        with self.assertRaises(error) as caught:
            call(*values)
        self.assertIs(type(caught.exception), error)
        self.assertIs(getattr(caught.exception, name), value)

    def assert_no_polls(self, index, call, *values):
        with self.assertRaises(NoPolls) as caught:
            call(*values)
        self.assertEqual(caught.exception.index, index)
        self.assertIs(type(caught.exception.index), int)


class Interface(unittest.TestCase):
    def test_signatures(self):
        for call, text in (
            (Reader, "(lag)"),
            (Reader.poll, "(self, record)"),
            (read, "(system, schedule, polls, lag)"),
            (missed, "(system, schedule, polls, lag)"),
            (least_lag, "(system)"),
            (losing, "(system, lag)"),
        ):
            self.assertEqual(str(inspect.signature(call)), text)
            self.assertEqual(call.__module__, "takenahead.readers")

    def test_defined_in_the_class(self):
        for name in ("poll", "mark", "__contains__", "__len__"):
            self.assertIn(name, vars(Reader))
        self.assertIsInstance(vars(Reader)["mark"], property)


class Readers(ReaderCase):
    """Point 37."""

    def record(self, *committed):
        """A record with one commit for each number; all other numbers below the height stay out or in a store."""
        found = run(two((TAKE, TAKE, TAKE, COMMIT), SHORT, (3, 1)), [])
        found.commits = [(0, (number,)) for number in committed]
        return found

    def test_lags(self):
        for lag in (0, 1, 99, 100):
            reader = Reader(lag)
            self.assertEqual((reader.mark, len(reader)), (0, 0))
        for lag in NO_LAGS:
            self.assert_wrong(BadLag, "lag", lag, Reader, lag)

    def test_before_anything_was_told(self):
        for lag in (0, 5, 100):
            reader = Reader(lag)
            self.assertEqual(reader.poll(run(SYSTEM, [])), [])
            self.assertEqual(reader.poll(run(SYSTEM, LATE[:2])), [])
            self.assertEqual((reader.mark, len(reader)), (0, 0))
            self.assertNotIn(0, reader)

    def test_growing_records(self):
        running = Running(one(*PAIR, block=2))
        reader = Reader(1)
        found = []
        for step in [(0, 0)] * 6:
            running(step)
            found.append((reader.poll(running.record()), reader.mark))
        self.assertEqual(found, [([], 0), ([], 0), ([0, 1], 0), ([], 0), ([], 0), ([2, 3], 2)])

    def test_mark_does_not_become_less(self):
        reader = Reader(2)
        self.assertEqual(reader.poll(self.record(7)), [7])
        self.assertEqual(reader.mark, 5)
        # 4 is committed below the mark, 5 and 6 at and above it.
        self.assertEqual(reader.poll(self.record(7, 4, 6, 5)), [5, 6])
        self.assertEqual(reader.mark, 5)
        self.assertEqual(reader.poll(self.record(7, 4, 6, 5, 9)), [9])
        self.assertEqual(reader.mark, 7)
        self.assertEqual(len(reader), 4)

    def test_earlier_records(self):
        reader = Reader(0)
        self.assertEqual(reader.poll(self.record(0, 1, 2, 3)), [0, 1, 2, 3])
        self.assertEqual(reader.poll(self.record(0, 1)), [])
        self.assertEqual((reader.mark, len(reader)), (3, 4))
        self.assertEqual(reader.poll(self.record()), [])
        self.assertEqual(reader.poll(self.record(0, 1, 2, 3, 4)), [4])
        self.assertEqual(reader.mark, 4)

    def test_number_at_the_mark(self):
        reader = Reader(0)
        self.assertEqual(reader.poll(self.record(3)), [3])
        # 3 is not less than the mark, but it was told; 2 is less.
        self.assertEqual(reader.poll(self.record(3, 2)), [])
        reader = Reader(1)
        self.assertEqual(reader.poll(self.record(3)), [3])
        self.assertEqual(reader.poll(self.record(3, 1, 2)), [2])

    def test_lag_above_all_numbers(self):
        reader = Reader(100)
        self.assertEqual(reader.poll(self.record(100)), [100])
        self.assertEqual(reader.mark, 0)
        self.assertEqual(reader.poll(self.record(100, 0)), [0])
        self.assertEqual(reader.poll(self.record(100, 0, 101)), [101])
        self.assertEqual(reader.mark, 1)

    def test_ascending(self):
        record = run(SYSTEM, LATE)
        self.assertEqual(record.commits, [(1, (2,)), (1, (3,)), (0, (0,))])
        found = Reader(5).poll(record)
        self.assertIs(type(found), list)
        self.assertEqual(found, [0, 2, 3])

    def test_in_and_len(self):
        reader = Reader(3)
        reader.poll(self.record(0, 1, 4))
        for number in (0, 1, 4):
            self.assertIs(number in reader, True)
        others = [value for value in NO_NUMBERS] + [
            2, 3, 5, -1, HUGE, -HUGE, True, False, None, "0", "1", (0,), [0], [1], {0: 1}, {1}, Same(), 1.0, 0.0, b"1",
        ]
        for value in others:
            self.assertIs(value in reader, False)
        self.assertEqual(len(reader), 3)
        self.assertIs(type(len(reader)), int)
        self.assertIs(0 in Reader(0), False)

    def test_results_and_records(self):
        reader = Reader(1)
        record = run(SYSTEM, LATE)
        before = copy.deepcopy(vars(record))
        reader.poll(record).append(9)
        self.assertEqual(vars(record), before)
        self.assertNotIn(9, reader)
        self.assertEqual((len(reader), reader.mark), (3, 2))
        # Two readers have nothing to do with each other.
        self.assertEqual(Reader(1).poll(record), [0, 2, 3])

    def test_huge_record(self):
        self.assertEqual(Reader(3).poll(self.record(*range(2000))), list(range(2000)))

    def test_all_short_schedules(self):
        for number, system in enumerate(SYSTEMS):
            for schedule in short_schedules(system, 8 if len(system.sessions) == 1 else 5):
                records = [run(system, schedule[:index]) for index in range(len(schedule) + 1)]
                for lag in (0, 1, 3):
                    reader = Reader(lag)
                    for record, (new, mark, told) in zip(records, slow_polls(records, lag)):
                        self.assertEqual(reader.poll(record), new, number)
                        self.assertEqual((reader.mark, len(reader)), (mark, len(told)))
                        self.assertTrue(all(each in reader for each in told))


class Read(ReaderCase):
    """Point 38."""

    def test_read(self):
        for polls, lag, expected in (
            ([], 0, []),
            ([0], 0, [[]]),
            ([6], 0, [[0, 2, 3]]),
            ([3, 6], 0, [[2], [3]]),
            ([3, 6], 2, [[2], [0, 3]]),
            ([5, 6], 2, [[2, 3], []]),
            ([5, 6], 3, [[2, 3], [0]]),
            ([0, 0, 3, 3, 3, 6, 6], 9, [[], [], [2], [], [], [0, 3], []]),
        ):
            found = read(SYSTEM, LATE, polls, lag)
            self.assertIs(type(found), list)
            self.assertEqual(found, expected)
        self.assertEqual(read(SYSTEM, [], [0, 0], 0), [[], []])
        self.assertEqual(read(SYSTEM, [], [], 100), [])

    def test_missed(self):
        for polls, lag, expected in (
            ([], 0, []),
            ([0], 0, []),
            ([6], 0, []),
            ([3], 0, [0]),
            ([3], 1, [0]),
            ([3], 2, []),
            ([5], 2, [0]),
            ([5], 3, []),
            ([1, 5, 5], 0, [0]),
        ):
            found = missed(SYSTEM, LATE, polls, lag)
            self.assertIs(type(found), list)
            self.assertEqual(found, expected)
        self.assertEqual(missed(SYSTEM, [], [], 0), [])
        # What is not committed is not missed.
        self.assertEqual(missed(SYSTEM, LATE[:-1], [3], 0), [])
        # Several numbers in ascending order.
        schedule = [(0, 0), (0, 0), (1, 0), (1, 0), (0, 0)]
        self.assertEqual(missed(two(PAIR, SHORT), schedule, [4], 0), [0, 1])
        self.assertEqual(missed(two(PAIR, SHORT), schedule, [4], 1), [0])

    def test_all_polls(self):
        for system, schedule in (
            (SYSTEM, LATE),
            (one(*MAYBE, block=2, ahead=1, crashes=1), [(0, 0)] * 4 + [CRASH] + [(0, 0)] * 3),
            (two(PAIR, SHORT, (2, 1)), [(0, 0), (1, 0), (1, 0), (0, 0), (0, 0), (1, 0), (1, 0)]),
        ):
            before = copy.deepcopy(schedule)
            places = range(len(schedule) + 1)
            for count in range(4):
                for polls in itertools.combinations_with_replacement(places, count):
                    for lag in (0, 1, 2, 5):
                        records = [run(system, schedule[:poll]) for poll in [*polls, len(schedule)]]
                        found = slow_polls(records, lag)
                        polls_list = list(polls)
                        self.assertEqual(
                            read(system, schedule, polls_list, lag), [new for new, mark, told in found[:-1]],
                        )
                        committed = {each for session, numbers in records[-1].commits for each in numbers}
                        expected = sorted(committed - found[-1][2])
                        self.assertEqual(missed(system, schedule, polls_list, lag), expected)
                        self.assertEqual((schedule, polls_list), (before, list(polls)))

    def test_bad_steps(self):
        for call in (read, missed):
            for schedule in NO_LISTS:
                for polls, lag in (([], 0), (None, 0), ([5], -1), ([-1], None)):
                    with self.assertRaises(BadStep) as caught:
                        call(SYSTEM, schedule, polls, lag)
                    self.assertEqual(caught.exception.index, -1)
            for schedule, index in (
                ([(2, 0)], 0), ([(0, 0), CRASH], 1), (LATE + [(0, 1)], 6), ([(0, 0), (1, 0), (1, 0), None], 3),
            ):
                # Also where the polls end before the wrong step, and with a wrong argument behind it.
                for polls, lag in (([], 0), ([0], 0), ("", 0), ([-1], 0), ([0], 101), (None, None)):
                    with self.assertRaises(BadStep) as caught:
                        call(SYSTEM, schedule, polls, lag)
                    self.assertEqual(caught.exception.index, index)

    def test_no_polls(self):
        for call in (read, missed):
            for polls in NO_LISTS:
                for lag in (0, -1, None):
                    self.assert_no_polls(-1, call, SYSTEM, LATE, polls, lag)
            for polls, index in (
                ([-1], 0), ([7], 0), ([0, 7], 1), ([3, 2], 1), ([0, 6, 5, -1], 2), ([1, 1, 0], 2), ([6, 6, 7], 2),
                ([HUGE], 0), ([0, -HUGE], 1), ([True], 0), ([0, None], 1), ([2, 3, "4"], 2), ([2, 3.0], 1),
            ):
                for lag in (0, 100, -1, 101, None, True, "0"):
                    self.assert_no_polls(index, call, SYSTEM, LATE, polls, lag)
            for value in NO_NUMBERS:
                self.assert_no_polls(1, call, SYSTEM, LATE, [0, value, -1], 0)
            self.assert_no_polls(0, call, SYSTEM, [], [1], 0)

    def test_bad_lag(self):
        for call in (read, missed):
            for lag in NO_LAGS:
                self.assert_wrong(BadLag, "lag", lag, call, SYSTEM, LATE, [3], lag)
                self.assert_wrong(BadLag, "lag", lag, call, SYSTEM, [], [], lag)
            for lag in (0, 100):
                call(SYSTEM, LATE, [3], lag)

    def test_results_are_new(self):
        found = read(SYSTEM, LATE, [3, 6], 2)
        found[0].append(7)
        found.clear()
        self.assertEqual(read(SYSTEM, LATE, [3, 6], 2), [[2], [0, 3]])


class Lags(ReaderCase):
    """Point 39."""

    def test_least_lag(self):
        for system, expected in (
            (one(DROP), 0),
            (one(*SHORT, block=3), 0),
            (SYSTEM, 3),
            (two(SHORT, SHORT, window=2), 1),
            # While 1 is out, the other session gets the blocks up to 8, since 6 + 3 - 1 is not above 8.
            (two(SHORT, SHORT, (3, 3), window=8), 7),
            (two((LOCK, TAKE, COMMIT), (LOCK, TAKE, COMMIT)), 0),
            # The numbers are never committed, however late.
            (two((TAKE, ROLLBACK), SHORT), 0),
        ):
            self.assertEqual(least_lag(system), expected)
            self.assertIs(type(least_lag(system)), int)

    def test_endless(self):
        for system in (two(SHORT, SHORT), two(LOCKER, LOCKER, (2, 1)), System(Kind("a", SHORT, many=3))):
            with self.assertRaises(Endless) as caught:
                least_lag(system)
            self.assertIs(type(caught.exception), Endless)
            self.assertIsInstance(caught.exception, TakeError)

    def test_losing(self):
        for system, most in ((SYSTEM, 3), (two(SHORT, SHORT, window=2), 1), (two(SHORT, SHORT, (3, 3), window=8), 7)):
            for lag in (0, most - 1, most, most + 1, 100):
                found = losing(system, lag)
                if lag >= most:
                    self.assertIsNone(found)
                else:
                    self.assert_losing(system, lag, found)

    def assert_losing(self, system, lag, found):
        self.assertIs(type(found), tuple)
        schedule, polls = found
        self.assertEqual((type(schedule), type(polls)), (list, list))
        self.assertNotEqual(missed(system, schedule, polls, lag), [])

    def test_losing_if_endless(self):
        for system in (two(SHORT, SHORT), two(LOCKER, LOCKER, (2, 1)), System(Kind("a", SHORT, many=3))):
            for lag in (0, 1, 20, 99, 100):
                self.assert_losing(system, lag, losing(system, lag))

    def test_losing_without_lateness(self):
        for system in (one(DROP), one(*SHORT, block=3), two((TAKE, ROLLBACK), SHORT)):
            for lag in (0, 100):
                self.assertIsNone(losing(system, lag))

    def test_all_systems(self):
        for number, system in enumerate(SYSTEMS):
            value = greatest(system, "late")
            with self.subTest(number):
                if value == ("endless",):
                    self.assertRaises(Endless, least_lag, system)
                    self.assert_losing(system, 7, losing(system, 7))
                    continue
                most = least_lag(system)
                self.assertEqual(most, value[1] if value[0] == "most" else 0)
                self.assertIsNone(losing(system, most))
                if most > 0:
                    self.assert_losing(system, most - 1, losing(system, most - 1))
                # One poll before the end is the same as the last one of several.
                for schedule in short_schedules(system, 8 if len(system.sessions) == 1 else 5):
                    for poll in range(len(schedule) + 1):
                        self.assertEqual(missed(system, schedule, [poll], most), [])
                    self.assertEqual(missed(system, schedule, list(range(len(schedule) + 1)), most), [])

    def test_bad_lag(self):
        for system in (SYSTEM, BIG):
            for lag in NO_LAGS:
                self.assert_wrong(BadLag, "lag", lag, losing, system, lag)

    def test_too_many(self):
        for call, values in ((least_lag, ()), (losing, (0,)), (losing, (100,))):
            with self.assertRaises(TooMany) as caught:
                call(BIG, *values)
            self.assertEqual(caught.exception.limit, 2000)

    def test_edge_of_too_many(self):
        triple = (TAKE, TAKE, TAKE, COMMIT)
        system = two(triple, (TAKE, TAKE), (1, 3), ahead=2, crashes=1)
        self.assertEqual(reach(system, "late"), 2000)
        self.assertEqual(least_lag(system), 0)
        self.assertIsNone(losing(system, 0))
        system = two(triple, (TAKE, TAKE), (2, 3), window=6, crashes=2)
        for call, values in ((least_lag, ()), (losing, (0,))):
            with self.assertRaises(TooMany):
                call(system, *values)
        # Only the states for the lateness count.
        system = two(PAIR, (LOCK, TAKE, ("unlock", "a"), COMMIT), (1, 3), crashes=1)
        with self.assertRaises(TooMany):
            reach(system, "gap")
        self.assertRaises(Endless, least_lag, system)

    def test_results_are_new(self):
        schedule, polls = losing(SYSTEM, 2)
        schedule.clear()
        polls.clear()
        self.assert_losing(SYSTEM, 2, losing(SYSTEM, 2))


if __name__ == "__main__":
    unittest.main()
