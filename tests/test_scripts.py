"""Points 2 to 6: scripts."""

import inspect
import itertools
import unittest

from odd import NO_NUMBERS, Same, Thing, without
from takenahead.errors import BadScript, NoAnswer, NoPlace, TakeError
from takenahead.scripts import Script, places_of

TAKE = ("take",)
COMMIT = ("commit",)
ROLLBACK = ("rollback",)
DROP = ("drop",)
LEAVE = ("leave",)
LOCK = ("lock", "a")
UNLOCK = ("unlock", "a")
EXAMPLE = (TAKE, ("choose", (COMMIT,), ()), DROP)


def choose(yes=(), no=()):
    return ("choose", yes, no)


class ScriptCase(unittest.TestCase):
    def assert_bad(self, statements, place, why):
        with self.assertRaises(BadScript) as caught:
            Script(statements)
        self.assertIs(type(caught.exception), BadScript)
        self.assertEqual((caught.exception.place, caught.exception.why), (place, why))

    def assert_places(self, statements, places):
        script = Script(statements)
        self.assertIsInstance(script.places, tuple)
        self.assertEqual(script.places, places)


class Interface(unittest.TestCase):
    def test_signatures(self):
        self.assertEqual(str(inspect.signature(Script)), "(statements)")
        self.assertEqual(str(inspect.signature(Script.after)), "(self, place, answer=0)")
        self.assertEqual(str(inspect.signature(places_of)), "(script)")

    def test_defined_here(self):
        self.assertEqual(Script.__module__, "takenahead.scripts")
        self.assertEqual(places_of.__module__, "takenahead.scripts")
        for name in ("__init__", "__len__", "__contains__", "__getitem__", "__eq__", "after"):
            self.assertIn(name, vars(Script))

    def test_generator(self):
        self.assertTrue(inspect.isgeneratorfunction(places_of))


class ValidScripts(ScriptCase):
    def test_all_words(self):
        words = (TAKE, COMMIT, ROLLBACK, DROP, LEAVE, LOCK, UNLOCK, choose())
        script = Script(words)
        self.assertIs(script.statements, words)
        self.assertEqual(script.places, tuple((index,) for index in range(8)))

    def test_one_and_eight_statements(self):
        for statement in (TAKE, COMMIT, ROLLBACK, DROP, LEAVE, LOCK, UNLOCK, choose()):
            self.assertEqual(len(Script((statement,))), 1)
        self.assertEqual(len(Script((DROP,) * 8)), 8)

    def test_example(self):
        self.assert_places(EXAMPLE, ((0,), (1,), (1, 0, 0), (2,)))

    def test_choose_in_choose(self):
        inner = choose((COMMIT,), (DROP, ROLLBACK))
        self.assert_places(
            (choose((inner,), (DROP,)), TAKE),
            ((0,), (0, 0, 0), (0, 0, 0, 0, 0), (0, 0, 0, 1, 0), (0, 0, 0, 1, 1), (0, 1, 0), (1,)),
        )

    def test_place_in_branch_no(self):
        self.assert_places(
            (TAKE, TAKE, choose((), (COMMIT, DROP))), ((0,), (1,), (2,), (2, 1, 0), (2, 1, 1)),
        )

    def test_empty_branches(self):
        self.assert_places((choose(), choose((choose(),), ())), ((0,), (1,), (1, 0, 0)))

    def test_places_ascend(self):
        for statements in (EXAMPLE, (choose((choose((DROP,), (DROP,)),), (DROP,)), choose((DROP,), (DROP,)))):
            places = Script(statements).places
            self.assertEqual(list(places), sorted(places))
            self.assertEqual(len(places), len(set(places)))

    def test_eight_statements_in_branches(self):
        self.assertEqual(len(Script((choose((DROP,) * 3, (DROP,) * 3), DROP))), 8)
        self.assertEqual(len(Script((choose((), (DROP,) * 7),))), 8)

    def test_names(self):
        for name in ("a", "z", "abcdefgh", "zzzzzzzz", "take"):
            self.assertEqual(Script((("lock", name), ("unlock", name))).statements[0], ("lock", name))

    def test_words_that_are_computed(self):
        self.assertEqual(len(Script(((("ta" + "ke ").strip(),),))), 1)

    def test_three_numbers(self):
        for between in ((), (DROP,), (LOCK,), (UNLOCK,), (choose(),), (choose((DROP,), (LOCK,)),)):
            Script((TAKE, TAKE) + between + (TAKE,))

    def test_three_numbers_again(self):
        for between in (COMMIT, ROLLBACK, LEAVE, choose((COMMIT,), (ROLLBACK,)), choose((LEAVE,), (COMMIT,))):
            Script((TAKE, TAKE, TAKE, between, TAKE))
        Script((TAKE, TAKE, TAKE, COMMIT, TAKE, TAKE, TAKE))

    def test_three_numbers_on_each_way(self):
        Script((TAKE, choose((TAKE,), ()), TAKE))
        Script((choose((TAKE, TAKE, TAKE), (TAKE, TAKE, TAKE)),))
        Script((choose((TAKE, TAKE, TAKE, COMMIT), (TAKE,)), TAKE, TAKE))
        Script((TAKE, TAKE, choose((choose((TAKE, COMMIT), ()),), (COMMIT,)), TAKE))


class Forms(ScriptCase):
    def test_no_tuple(self):
        for statements in without(tuple) + [[TAKE], "take", Script((TAKE,)), iter((TAKE,)), {TAKE: TAKE}]:
            with self.subTest(statements):
                self.assert_bad(statements, (), "form")

    def test_empty(self):
        self.assert_bad((), (), "size")

    def test_statement_of_another_kind(self):
        for statement in without(tuple) + [["take"], "take", "choose", Script((TAKE,)), 7]:
            with self.subTest(statement):
                self.assert_bad((statement,), (0,), "form")
                self.assert_bad((DROP, statement), (1,), "form")
                self.assert_bad((DROP, choose((), (DROP, statement))), (1, 1, 1), "form")

    def test_empty_statement(self):
        self.assert_bad(((),), (0,), "form")
        self.assert_bad((DROP, choose(((),))), (1, 0, 0), "form")

    def test_word_of_another_kind(self):
        for word in without() + ["Take", "take ", "TAKE", "", "taken", "ta", ("take",), ["take"], b"take", 0]:
            if word != "take" or isinstance(word, Same):
                for statement in ((word,), (word, "a"), (word, (), ())):
                    with self.subTest(statement):
                        self.assert_bad((statement,), (0,), "form")

    def test_number_of_items(self):
        for word, many in (
            ("take", 1), ("commit", 1), ("rollback", 1), ("drop", 1), ("leave", 1), ("lock", 2), ("unlock", 2),
            ("choose", 3),
        ):
            items = (word, "a") if many == 2 else (word, (), ())
            for count in range(1, 6):
                statement = (items + ("a", "a", "a"))[:count]
                if count != many:
                    with self.subTest(statement):
                        self.assert_bad((statement,), (0,), "form")
        self.assert_bad((("take", None),), (0,), "form")
        self.assert_bad((("lock", "a", "b"),), (0,), "form")
        self.assert_bad((("choose", (), (), ()),), (0,), "form")

    def test_branch_of_another_kind(self):
        for branch in without(tuple) + [[TAKE], Script((TAKE,)), "take"]:
            with self.subTest(branch):
                self.assert_bad((DROP, ("choose", branch, ())), (1,), "form")
                self.assert_bad((DROP, ("choose", (), branch)), (1,), "form")
                self.assert_bad((DROP, ("choose", branch, branch)), (1,), "form")

    def test_branch_that_is_a_statement(self):
        self.assert_bad((("choose", TAKE, ()),), (0, 0, 0), "form")


class Sizes(ScriptCase):
    def test_ninth_statement(self):
        self.assert_bad((DROP,) * 9, (8,), "size")
        self.assert_bad((DROP,) * 100000, (8,), "size")

    def test_ninth_statement_inside_of_a_branch(self):
        self.assert_bad((choose((DROP,) * 8),), (0, 0, 7), "size")
        self.assert_bad((choose((DROP,) * 4, (DROP,) * 4),), (0, 1, 3), "size")
        self.assert_bad((choose((choose((DROP,) * 6, (DROP,)),)),), (0, 0, 0, 1, 0), "size")

    def test_ninth_statement_behind_a_branch(self):
        self.assert_bad((choose((DROP,) * 4, (DROP,) * 3), DROP), (1,), "size")
        self.assert_bad((DROP,) * 6 + (choose((DROP,)), DROP), (7,), "size")

    def test_size_ahead_of_the_others(self):
        for ninth in (None, (), ("lock", "A"), choose(None, None), TAKE):
            self.assert_bad((TAKE,) * 3 + (DROP,) * 5 + (ninth,), (8,), "size")
        nested = choose((choose((DROP,) * 6 + (choose(),)),))
        self.assert_bad((nested,), (0, 0, 0, 0, 6), "size")


class NestedNamesFull(ScriptCase):
    def test_nested(self):
        self.assert_bad((choose((choose((choose(),)),)),), (0, 0, 0, 0, 0), "nested")
        self.assert_bad((DROP, choose((), (choose((), (DROP, choose())),))), (1, 1, 0, 1, 1), "nested")

    def test_form_ahead_of_nested(self):
        self.assert_bad((choose((choose((choose(None),)),)),), (0, 0, 0, 0, 0), "form")
        self.assert_bad((choose((choose((("choose", ()),)),)),), (0, 0, 0, 0, 0), "form")

    def test_nested_ahead_of_what_is_inside(self):
        self.assert_bad((choose((choose((choose((None,)),)),)),), (0, 0, 0, 0, 0), "nested")

    def test_nested_deeply(self):
        statement = DROP
        for depth in range(5000):
            statement = choose((statement,))
        self.assert_bad((statement,), (0, 0, 0, 0, 0), "nested")

    def test_name(self):
        names = without(str) + [
            "", "abcdefghi", "A", "aB", "a1", "1", "a b", " a", "a ", "a\n", "a_", "-", "`", "{", "\u00e9", "\u00df",
            "a\u0308", "\u0430", "\u212a", "\uff41", "a\x00", ("a",), ["a"], b"a", "a" * 100000,
        ]
        for name in names:
            for word in ("lock", "unlock"):
                with self.subTest((word, name)):
                    self.assert_bad(((word, name),), (0,), "name")
                    self.assert_bad((DROP, choose((), ((word, name),))), (1, 1, 0), "name")

    def test_full(self):
        self.assert_bad((TAKE,) * 4, (3,), "full")
        for between in (DROP, LOCK, UNLOCK, choose(), choose((DROP,))):
            self.assert_bad((TAKE, TAKE, TAKE, between, TAKE), (4,), "full")

    def test_full_on_one_way(self):
        self.assert_bad((TAKE, TAKE, choose((TAKE,), ()), TAKE), (3,), "full")
        self.assert_bad((TAKE, TAKE, choose((), (TAKE,)), TAKE), (3,), "full")
        self.assert_bad((TAKE, TAKE, TAKE, choose((COMMIT,), ()), TAKE), (4,), "full")
        self.assert_bad((TAKE, TAKE, TAKE, choose((), (COMMIT,)), TAKE), (4,), "full")
        self.assert_bad((TAKE, TAKE, TAKE, choose((choose((COMMIT,), ()),), (COMMIT,)), TAKE), (4,), "full")

    def test_full_inside_of_a_branch(self):
        self.assert_bad((TAKE, TAKE, TAKE, choose((COMMIT,), (TAKE,))), (3, 1, 0), "full")
        self.assert_bad((TAKE, TAKE, choose((TAKE, TAKE), ())), (2, 0, 1), "full")

    def test_full_behind_leave(self):
        self.assert_bad((TAKE, LEAVE, TAKE, TAKE, TAKE, TAKE), (5,), "full")
        self.assert_bad((LEAVE, TAKE, TAKE, TAKE, TAKE), (4,), "full")
        self.assert_bad((TAKE, TAKE, TAKE, choose((LEAVE,), ()), TAKE), (4,), "full")

    def test_first_fault_in_reading_order(self):
        self.assert_bad((("lock", "A"), None), (0,), "name")
        self.assert_bad((None, ("lock", "A")), (0,), "form")
        self.assert_bad((choose((("lock", ""),), (None,)), ()), (0, 0, 0), "name")
        self.assert_bad((choose((), (None,)), ("lock", "")), (0, 1, 0), "form")
        self.assert_bad((TAKE, TAKE, TAKE, TAKE, None), (3,), "full")
        self.assert_bad((TAKE, TAKE, TAKE, None, TAKE), (3,), "form")
        self.assert_bad((None,) * 20, (0,), "form")
        self.assert_bad((DROP,) * 7 + (None, None), (7,), "form")
        self.assert_bad((("choose", (None,), None), DROP), (0,), "form")

    def test_against_all_ways(self):
        # The greatest count on some way, from the ways themselves. Behind a `leave` the way goes on.
        branches = ((), (TAKE,), (COMMIT,), (TAKE, TAKE), (LEAVE, TAKE), (TAKE, ROLLBACK))
        for yes, no, behind in itertools.product(branches, branches, branches):
            for before in range(4):
                statements = (TAKE,) * before + (choose(yes, no),) + behind
                if before + 1 + len(yes + no + behind) > 8:
                    continue
                ways = [(TAKE,) * before + branch + behind for branch in (yes, no)]
                with self.subTest(statements):
                    if max(greatest_count(way) for way in ways) <= 3:
                        self.assertEqual(Script(statements).statements, statements)
                    else:
                        with self.assertRaises(BadScript) as caught:
                            Script(statements)
                        self.assertEqual(caught.exception.why, "full")


def greatest_count(way):
    counts = [0]
    for statement in way:
        counts.append(counts[-1] + 1 if statement == TAKE else 0)
    return max(counts)


NO_PLACES = without(tuple) + [
    (), (-1,), (3,), (10 ** 6000,), (True,), (False,), (0.0,), (1.0,), ("0",), (None,), ((0,),), ([0],), ({},),
    (1, 0), (1, 0, 1), (1, 0, -1), (1, 1, 0), (1, -1, 0), (1, 2, 0), (1, False, 0), (1, 0, False), (True, 0, 0),
    (1, 0.0, 0), (1, 0, 0, 0), (1, 0, 0, 0, 0), (0, 0, 0), (0, 0), (0, None), (-3,), (-2, 0, 0), (0,) * 1000,
    (Same(),), (Thing(),), Same(), [0], [1, 0, 0], "(0,)", 0, 1, b"\x00", {0}, {0: 0}, frozenset((0,)),
]


class Operations(ScriptCase):
    def test_attributes(self):
        script = Script(EXAMPLE)
        self.assertIs(script.statements, EXAMPLE)
        self.assertEqual(script.places, ((0,), (1,), (1, 0, 0), (2,)))
        self.assertEqual(len(script), 4)

    def test_in(self):
        script = Script(EXAMPLE)
        for place in script.places:
            self.assertIs(place in script, True)
            self.assertIs(tuple(list(place)) in script, True)

    def test_not_in(self):
        script = Script(EXAMPLE)
        for place in NO_PLACES:
            with self.subTest(place):
                self.assertIs(place in script, False)

    def test_item(self):
        script = Script(EXAMPLE)
        self.assertEqual(
            [script[place] for place in script.places], [TAKE, ("choose", (COMMIT,), ()), COMMIT, DROP],
        )

    def test_item_of_nested_branches(self):
        script = Script((DROP, choose((LOCK,), (choose((TAKE,), (COMMIT, LEAVE)),))))
        self.assertEqual(script[1, 0, 0], LOCK)
        self.assertEqual(script[(1, 1, 0)], choose((TAKE,), (COMMIT, LEAVE)))
        self.assertEqual(script[(1, 1, 0, 0, 0)], TAKE)
        self.assertEqual(script[(1, 1, 0, 1, 0)], COMMIT)
        self.assertEqual(script[(1, 1, 0, 1, 1)], LEAVE)

    def test_no_item(self):
        script = Script(EXAMPLE)
        for place in NO_PLACES:
            with self.subTest(place):
                with self.assertRaises(NoPlace) as caught:
                    script[place]
                self.assertIs(caught.exception.place, place)

    def test_equal(self):
        same = Script((("take",), ("choose", (("commit",),), ()), ("drop",)))
        self.assertTrue(Script(EXAMPLE) == same)
        self.assertFalse(Script(EXAMPLE) != same)

    def test_not_equal(self):
        for other in (EXAMPLE[:2], EXAMPLE + (DROP,), (TAKE, ("choose", (), (COMMIT,)), DROP), (DROP,)):
            self.assertFalse(Script(EXAMPLE) == Script(other))
            self.assertTrue(Script(EXAMPLE) != Script(other))
        self.assertTrue(Script((("lock", "a"),)) != Script((("lock", "b"),)))
        self.assertTrue(Script((("lock", "a"),)) != Script((("unlock", "a"),)))

    def test_places_of(self):
        script = Script(EXAMPLE)
        pairs = places_of(script)
        self.assertTrue(inspect.isgenerator(pairs))
        self.assertEqual(
            list(pairs),
            [((0,), TAKE), ((1,), ("choose", (COMMIT,), ())), ((1, 0, 0), COMMIT), ((2,), DROP)],
        )
        self.assertEqual([place for place, statement in places_of(script)], list(script.places))
        self.assertEqual(list(places_of(Script((LEAVE,)))), [((0,), LEAVE)])


class After(ScriptCase):
    def assert_after(self, script, rows):
        for place, answer, follower in rows:
            with self.subTest((place, answer)):
                self.assertEqual(script.after(place, answer), follower)

    def test_example(self):
        script = Script(EXAMPLE)
        self.assert_after(script, (
            ((0,), 0, (1,)), ((1,), 0, (1, 0, 0)), ((1,), 1, (2,)), ((1, 0, 0), 0, (2,)), ((2,), 0, None),
        ))

    def test_answer_left_out(self):
        script = Script(EXAMPLE)
        self.assertEqual(script.after((1,)), (1, 0, 0))
        self.assertEqual(script.after(place=(1,), answer=1), (2,))
        self.assertIsNone(script.after((2,)))

    def test_nested_branches(self):
        script = Script((choose((DROP, choose((LOCK,), (UNLOCK, COMMIT))), (choose(),)), TAKE))
        self.assert_after(script, (
            ((0,), 0, (0, 0, 0)),
            ((0,), 1, (0, 1, 0)),
            ((0, 0, 0), 0, (0, 0, 1)),
            ((0, 0, 1), 0, (0, 0, 1, 0, 0)),
            ((0, 0, 1), 1, (0, 0, 1, 1, 0)),
            ((0, 0, 1, 0, 0), 0, (1,)),
            ((0, 0, 1, 1, 0), 0, (0, 0, 1, 1, 1)),
            ((0, 0, 1, 1, 1), 0, (1,)),
            ((0, 1, 0), 0, (1,)),
            ((0, 1, 0), 1, (1,)),
            ((1,), 0, None),
        ))

    def test_inner_choose_that_is_not_last(self):
        script = Script((choose((choose((DROP,), ()), LOCK),), ))
        self.assert_after(script, (
            ((0,), 0, (0, 0, 0)),
            ((0,), 1, None),
            ((0, 0, 0), 0, (0, 0, 0, 0, 0)),
            ((0, 0, 0), 1, (0, 0, 1)),
            ((0, 0, 0, 0, 0), 0, (0, 0, 1)),
            ((0, 0, 1), 0, None),
        ))

    def test_end_of_script_in_branches(self):
        script = Script((TAKE, choose((), (choose((COMMIT,), (DROP,)),))))
        self.assert_after(script, (
            ((1,), 0, None), ((1,), 1, (1, 1, 0)), ((1, 1, 0), 0, (1, 1, 0, 0, 0)), ((1, 1, 0), 1, (1, 1, 0, 1, 0)),
            ((1, 1, 0, 0, 0), 0, None), ((1, 1, 0, 1, 0), 0, None),
        ))

    def test_empty_choose(self):
        script = Script((choose(), choose()))
        self.assert_after(script, (((0,), 0, (1,)), ((0,), 1, (1,)), ((1,), 0, None), ((1,), 1, None)))

    def test_leave(self):
        script = Script((LEAVE, choose((LEAVE, DROP), (choose((LEAVE,), ()),)), TAKE))
        self.assert_after(script, (
            ((0,), 0, None), ((1, 0, 0), 0, None), ((1, 0, 1), 0, (2,)), ((1, 1, 0), 0, (1, 1, 0, 0, 0)),
            ((1, 1, 0, 0, 0), 0, None), ((1, 1, 0), 1, (2,)),
        ))

    def test_each_word(self):
        for statement in (TAKE, COMMIT, ROLLBACK, DROP, LOCK, UNLOCK):
            script = Script((statement, DROP))
            self.assertEqual(script.after((0,)), (1,))
            self.assertIsNone(Script((statement,)).after((0,)))

    def test_no_place(self):
        script = Script(EXAMPLE)
        for place in NO_PLACES:
            with self.subTest(place):
                with self.assertRaises(NoPlace) as caught:
                    script.after(place)
                self.assertIs(caught.exception.place, place)

    def test_no_place_ahead_of_no_answer(self):
        with self.assertRaises(NoPlace):
            Script(EXAMPLE).after((3,), 2)
        with self.assertRaises(NoPlace):
            Script(EXAMPLE).after((True,), None)

    def test_no_answer(self):
        script = Script((TAKE, choose((COMMIT,), ()), LEAVE, LOCK))
        for place in script.places:
            wrong = list(NO_NUMBERS) + [-1, -2, 2, 3, 10 ** 6000, -10 ** 6000]
            for answer in wrong if place == (1,) else wrong + [1]:
                with self.subTest((place, answer if not isinstance(answer, int) else answer > 0)):
                    with self.assertRaises(NoAnswer) as caught:
                        script.after(place, answer)
                    self.assertIs(caught.exception.answer, answer)


class Nothing(ScriptCase):
    def test_errors_change_nothing(self):
        script = Script(EXAMPLE)
        for call in (lambda: script[(9,)], lambda: script.after((9,)), lambda: script.after((0,), 1)):
            with self.assertRaises(TakeError):
                call()
        self.assertEqual(script.statements, EXAMPLE)
        self.assertEqual(script.places, ((0,), (1,), (1, 0, 0), (2,)))
        self.assertTrue(script == Script(EXAMPLE))


if __name__ == "__main__":
    unittest.main()
