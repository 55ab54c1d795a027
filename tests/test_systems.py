"""Points 2 and 7 to 9: kinds and systems."""

import inspect
import unittest

from odd import NO_NUMBERS, without
from takenahead.errors import BadKind, BadScript, BadSystem, NoKind, NoSession
from takenahead.scripts import Script
from takenahead.systems import Kind, System

SHORT = (("take",), ("commit",))
FOUR = (("take",), ("commit",), ("drop",), ("drop",))
FIVE = FOUR + (("drop",),)
FOUR_IN_BRANCHES = (("take",), ("choose", (("commit",),), (("drop",),)))
FIVE_IN_BRANCHES = FOUR_IN_BRANCHES + (("drop",),)

HUGE = 10 ** 6000
NO_NAMES = without(str) + [
    "", "Web", "weB", "web1", "a b", "web ", "web\n", "abcdefghi", "a" * 100000, "\u00e9", "\u00df", "_", "1", b"web",
    ("web",), ["web"],
]


class KindOrSystemCase(unittest.TestCase):
    def assert_bad_kind(self, why, *values, **more):
        with self.assertRaises(BadKind) as caught:
            Kind(*values, **more)
        self.assertEqual(caught.exception.why, why)
        return caught.exception

    def assert_bad_system(self, why, *kinds, **more):
        with self.assertRaises(BadSystem) as caught:
            System(*kinds, **more)
        self.assertEqual(caught.exception.why, why)


class Interface(unittest.TestCase):
    def test_signatures(self):
        self.assertEqual(str(inspect.signature(Kind)), "(name, script, *, block=1, many=1)")
        self.assertEqual(str(inspect.signature(System)), "(*kinds, ahead=0, window=None, crashes=0)")
        self.assertEqual(str(inspect.signature(System.kind_of)), "(self, session)")
        self.assertEqual(
            str(inspect.signature(System.with_values)), "(self, *, ahead=-1, window=-1, crashes=-1)",
        )
        self.assertEqual(str(inspect.signature(System.with_blocks)), "(self, blocks)")

    def test_defined_here(self):
        for owner, names in (
            (Kind, ("__init__", "__eq__")),
            (System, ("__init__", "__eq__", "__getitem__", "kind_of", "with_values", "with_blocks")),
        ):
            self.assertEqual(owner.__module__, "takenahead.systems")
            for name in names:
                self.assertIn(name, vars(owner))


class Kinds(KindOrSystemCase):
    def test_left_out(self):
        kind = Kind("web", SHORT)
        self.assertEqual((kind.name, kind.block, kind.many), ("web", 1, 1))
        self.assertIsInstance(kind.script, Script)
        self.assertEqual(kind.script.statements, SHORT)

    def test_script(self):
        script = Script(SHORT)
        kind = Kind("web", script, block=3, many=2)
        self.assertTrue(kind.script == script)
        self.assertEqual((kind.name, kind.block, kind.many), ("web", 3, 2))

    def test_bounds(self):
        for number in (1, 2, 3):
            self.assertEqual(Kind("web", SHORT, block=number).block, number)
            self.assertEqual(Kind("web", SHORT, many=number).many, number)

    def test_names(self):
        for name in ("a", "z", "abcdefgh", "system"):
            self.assertEqual(Kind(name, SHORT).name, name)

    def test_bad_name(self):
        for name in NO_NAMES:
            with self.subTest(name):
                self.assert_bad_kind("name", name, SHORT)

    def test_bad_script(self):
        for script in [value for value in NO_NUMBERS if not isinstance(value, Script)] + [[("take",)], "take"]:
            with self.subTest(script):
                self.assertIsInstance(self.assert_bad_kind("script", "web", script).__cause__, BadScript)

    def test_cause(self):
        for script, place, why in (
            ([("take",)], (), "form"),
            (None, (), "form"),
            ((), (), "size"),
            ((("take",), None), (1,), "form"),
            ((("take",),) * 4, (3,), "full"),
            ((("choose", (), (("lock", "A"),)),), (0, 1, 0), "name"),
        ):
            cause = self.assert_bad_kind("script", "web", script).__cause__
            self.assertIs(type(cause), BadScript)
            self.assertEqual((cause.place, cause.why), (place, why))

    def test_bad_block_and_many(self):
        for number in list(NO_NUMBERS) + [0, 4, -1, -3, HUGE, -HUGE]:
            self.assert_bad_kind("block", "web", SHORT, block=number)
            self.assert_bad_kind("many", "web", SHORT, many=number)

    def test_first_of_several(self):
        self.assert_bad_kind("name", "Web", (), block=0, many=0)
        self.assert_bad_kind("script", "web", (), block=0, many=0)
        self.assert_bad_kind("block", "web", SHORT, block=0, many=0)

    def test_equal(self):
        kind = Kind("web", SHORT, block=2, many=3)
        same = Kind("web", Script(SHORT), block=2, many=3)
        self.assertTrue(kind == same)
        self.assertFalse(kind != same)
        self.assertTrue(Kind("web", SHORT) == Kind("web", SHORT, block=1, many=1))

    def test_not_equal(self):
        kind = Kind("web", SHORT, block=2, many=3)
        for other in (
            Kind("bew", SHORT, block=2, many=3),
            Kind("web", FOUR, block=2, many=3),
            Kind("web", SHORT, block=1, many=3),
            Kind("web", SHORT, block=2, many=2),
        ):
            self.assertFalse(kind == other)
            self.assertTrue(kind != other)


class Systems(KindOrSystemCase):
    def test_left_out(self):
        kind = Kind("web", SHORT)
        system = System(kind)
        self.assertIsInstance(system.kinds, tuple)
        self.assertEqual(system.kinds, (kind,))
        self.assertEqual((system.ahead, system.window, system.crashes), (0, None, 0))
        self.assertEqual(system.sessions, ("web",))

    def test_attributes(self):
        web, job = Kind("web", SHORT, block=2), Kind("job", SHORT, many=2)
        system = System(job, web, ahead=3, window=5, crashes=1)
        self.assertEqual(system.kinds, (job, web))
        self.assertEqual((system.ahead, system.window, system.crashes), (3, 5, 1))
        self.assertIsInstance(system.sessions, tuple)
        self.assertEqual(system.sessions, ("job", "job", "web"))
        self.assertEqual(System(web, job).sessions, ("web", "job", "job"))

    def test_bad_kinds(self):
        web = Kind("web", SHORT)
        self.assert_bad_system("kinds")
        for kind in [value for value in NO_NUMBERS if not isinstance(value, Kind)] + [(web,), [web], Kind]:
            with self.subTest(kind):
                self.assert_bad_system("kinds", kind)
                self.assert_bad_system("kinds", web, kind)
                self.assert_bad_system("kinds", kind, web)
        self.assert_bad_system("kinds", web, web)
        self.assert_bad_system("kinds", web, Kind("web", FOUR, block=2))
        self.assert_bad_system("kinds", web, Kind("job", SHORT), Kind("web", SHORT))

    def test_number_of_sessions(self):
        a, b, c, d = [Kind(name, SHORT) for name in "abcd"]
        self.assertEqual(System(a, b, c).sessions, ("a", "b", "c"))
        self.assertEqual(System(Kind("a", SHORT, many=3)).sessions, ("a", "a", "a"))
        self.assert_bad_system("kinds", a, b, c, d)
        self.assert_bad_system("kinds", a, Kind("b", SHORT, many=3))
        self.assert_bad_system("kinds", Kind("a", SHORT, many=2), Kind("b", SHORT, many=2))

    def test_size(self):
        for script in (FOUR, FOUR_IN_BRANCHES):
            System(Kind("a", script, many=3))
            System(Kind("a", script), Kind("b", SHORT), Kind("c", script))
            System(Kind("a", script, many=2), Kind("b", script))
        for script in (FIVE, FIVE_IN_BRANCHES):
            self.assert_bad_system("size", Kind("a", script, many=3))
            self.assert_bad_system("size", Kind("a", SHORT), Kind("b", SHORT), Kind("c", script))
            self.assert_bad_system("size", Kind("a", script), Kind("b", SHORT, many=2))
            self.assert_bad_system("size", Kind("a", SHORT), Kind("b", script, many=2))
            System(Kind("a", script, many=2))
            System(Kind("a", script), Kind("b", script))
            System(Kind("a", script))
        System(Kind("a", (("drop",),) * 8, many=2))

    def test_ahead(self):
        kind = Kind("web", SHORT)
        for number in range(5):
            self.assertEqual(System(kind, ahead=number).ahead, number)
        for number in list(NO_NUMBERS) + [5, -1, -2, HUGE, -HUGE]:
            self.assert_bad_system("ahead", kind, ahead=number)

    def test_window(self):
        kind = Kind("web", SHORT)
        for number in range(1, 9):
            self.assertEqual(System(kind, window=number).window, number)
        self.assertIsNone(System(kind, window=None).window)
        for number in [value for value in NO_NUMBERS if value is not None] + [0, 9, -1, HUGE, -HUGE]:
            self.assert_bad_system("window", kind, window=number)

    def test_window_less_than_a_block(self):
        for block in (1, 2, 3):
            for kinds in (
                (Kind("a", SHORT, block=block),),
                (Kind("a", SHORT, block=block), Kind("b", SHORT)),
                (Kind("a", SHORT), Kind("b", SHORT, block=block)),
            ):
                self.assertEqual(System(*kinds, window=block).window, block)
                self.assertIsNone(System(*kinds).window)
                self.assert_bad_system("window", *kinds, window=block - 1)

    def test_crashes(self):
        kind = Kind("web", SHORT)
        for number in range(3):
            self.assertEqual(System(kind, crashes=number).crashes, number)
        for number in list(NO_NUMBERS) + [3, -1, -2, HUGE, -HUGE]:
            self.assert_bad_system("crashes", kind, crashes=number)

    def test_first_of_several(self):
        a, b = Kind("a", FIVE, block=2, many=2), Kind("b", FIVE)
        self.assert_bad_system("kinds", a, b, a, ahead=5, window=1, crashes=3)
        self.assert_bad_system("kinds", ahead=5, window=1, crashes=3)
        self.assert_bad_system("kinds", a, a, ahead=5, window=1, crashes=3)
        self.assert_bad_system("size", a, b, ahead=5, window=1, crashes=3)
        self.assert_bad_system("ahead", a, ahead=5, window=1, crashes=3)
        self.assert_bad_system("window", a, window=1, crashes=3)
        self.assert_bad_system("crashes", a, window=2, crashes=3)

    def test_equal(self):
        one = System(Kind("a", SHORT), Kind("b", FOUR), ahead=1, window=4, crashes=2)
        same = System(Kind("a", Script(SHORT)), Kind("b", FOUR), ahead=1, window=4, crashes=2)
        self.assertTrue(one == same)
        self.assertFalse(one != same)
        self.assertTrue(System(Kind("a", SHORT)) == System(Kind("a", SHORT), window=None))

    def test_not_equal(self):
        a, b = Kind("a", SHORT), Kind("b", SHORT)
        one = System(a, b, ahead=1, window=4, crashes=2)
        for other in (
            System(b, a, ahead=1, window=4, crashes=2),
            System(a, ahead=1, window=4, crashes=2),
            System(a, Kind("b", SHORT, block=2), ahead=1, window=4, crashes=2),
            System(a, b, ahead=2, window=4, crashes=2),
            System(a, b, ahead=1, window=5, crashes=2),
            System(a, b, ahead=1, window=None, crashes=2),
            System(a, b, ahead=1, window=4, crashes=1),
        ):
            self.assertFalse(one == other)
            self.assertTrue(one != other)
        # Two sessions of one kind are not one session of each of two kinds.
        self.assertTrue(System(Kind("a", SHORT, many=2)) != System(a, b))


class Operations(KindOrSystemCase):
    def setUp(self):
        self.web = Kind("web", SHORT, block=2)
        self.job = Kind("job", FOUR, many=2)
        self.system = System(self.job, self.web, ahead=2, window=4, crashes=1)

    def tearDown(self):
        # Whatever a test did: the system is still what it was.
        self.assertEqual(self.system.kinds, (self.job, self.web))
        self.assertEqual((self.system.ahead, self.system.window, self.system.crashes), (2, 4, 1))
        self.assertEqual(self.system.sessions, ("job", "job", "web"))
        self.assertEqual((self.job.block, self.job.many, self.web.block, self.web.many), (1, 2, 2, 1))

    def assert_bad(self, why, call, *values, **more):
        with self.assertRaises(BadSystem) as caught:
            call(*values, **more)
        self.assertEqual(caught.exception.why, why)

    def test_item(self):
        self.assertTrue(self.system["web"] == self.web)
        self.assertTrue(self.system["job"] == self.job)

    def test_no_kind(self):
        for name in list(NO_NUMBERS) + ["", "we", "webs", "Web", b"web", ("web",), ["web"], self.web, 0, 1, HUGE]:
            with self.subTest(str(name)[:20] if not isinstance(name, int) else ""):
                with self.assertRaises(NoKind) as caught:
                    self.system[name]
                self.assertIs(caught.exception.name, name)

    def test_kind_of(self):
        kinds = [self.system.kind_of(session) for session in (0, 1, 2)]
        self.assertEqual(kinds, [self.job, self.job, self.web])
        self.assertTrue(System(self.web).kind_of(0) == self.web)

    def test_no_session(self):
        for session in list(NO_NUMBERS) + [-1, -3, 3, 4, HUGE, -HUGE]:
            with self.assertRaises(NoSession) as caught:
                self.system.kind_of(session)
            self.assertIs(caught.exception.session, session)
        with self.assertRaises(NoSession):
            System(self.web).kind_of(1)

    def test_with_values_kept(self):
        for other in (self.system.with_values(), self.system.with_values(ahead=-1, window=-1, crashes=-1)):
            self.assertIsNot(other, self.system)
            self.assertTrue(other == self.system)

    def test_with_values(self):
        kinds = (self.job, self.web)
        for values, expected in (
            ({"ahead": 0}, System(*kinds, ahead=0, window=4, crashes=1)),
            ({"ahead": 4}, System(*kinds, ahead=4, window=4, crashes=1)),
            ({"window": 2}, System(*kinds, ahead=2, window=2, crashes=1)),
            ({"window": 8}, System(*kinds, ahead=2, window=8, crashes=1)),
            ({"window": None}, System(*kinds, ahead=2, crashes=1)),
            ({"crashes": 0}, System(*kinds, ahead=2, window=4)),
            ({"crashes": 2}, System(*kinds, ahead=2, window=4, crashes=2)),
            ({"ahead": 1, "window": None, "crashes": 2}, System(*kinds, ahead=1, crashes=2)),
            ({"ahead": -1, "window": 3, "crashes": -1}, System(*kinds, ahead=2, window=3, crashes=1)),
        ):
            with self.subTest(values):
                other = self.system.with_values(**values)
                self.assertTrue(other == expected)
                self.assertEqual(other.sessions, ("job", "job", "web"))
                self.assertEqual(other.kinds, kinds)

    def test_with_values_keeps_no_window(self):
        system = System(self.web)
        self.assertIsNone(system.with_values(ahead=1).window)
        self.assertEqual(system.with_values(window=2).window, 2)

    def test_with_values_refused(self):
        call = self.system.with_values
        wrong = [value for value in NO_NUMBERS if value is not None] + [-2, 9, HUGE, -HUGE]
        for value in wrong:
            self.assert_bad("ahead", call, ahead=value)
            self.assert_bad("window", call, window=value)
            self.assert_bad("crashes", call, crashes=value)
        self.assert_bad("ahead", call, ahead=None)
        self.assert_bad("ahead", call, ahead=5)
        self.assert_bad("window", call, window=0)
        self.assert_bad("window", call, window=1)
        self.assert_bad("crashes", call, crashes=None)
        self.assert_bad("crashes", call, crashes=3)

    def test_with_values_first_of_several(self):
        call = self.system.with_values
        self.assert_bad("ahead", call, ahead=5, window=0, crashes=3)
        self.assert_bad("window", call, window=0, crashes=3)
        self.assert_bad("ahead", call, ahead=-2, crashes=3)

    def test_with_blocks(self):
        for blocks in ((1, 2), (1, 1), (3, 3), (2, 1)):
            with self.subTest(blocks):
                other = self.system.with_blocks(blocks)
                expected = System(
                    Kind("job", FOUR, block=blocks[0], many=2), Kind("web", SHORT, block=blocks[1]),
                    ahead=2, window=4, crashes=1,
                )
                self.assertIsNot(other, self.system)
                self.assertTrue(other == expected)
                self.assertEqual(tuple(kind.block for kind in other.kinds), blocks)
                self.assertEqual(other.sessions, ("job", "job", "web"))

    def test_with_blocks_refused(self):
        call = self.system.with_blocks
        for blocks in without(tuple) + [
            (), (1,), (1, 1, 1), [1, 1], [1, 2], (0, 1), (1, 0), (4, 1), (1, 4), (-1, 1), (True, 1), (1, True),
            (1.0, 1), (1, None), ("1", "1"), ((1,), 1), (1, [1]), "12", {1: 1, 2: 2}, (HUGE, 1), 1, 2,
        ]:
            self.assert_bad("blocks", call, blocks)

    def test_with_blocks_greater_than_the_window(self):
        small = System(self.job, self.web, window=2)
        self.assertTrue(small.with_blocks((2, 2)) == System(
            Kind("job", FOUR, block=2, many=2), self.web, window=2,
        ))
        self.assert_bad("window", small.with_blocks, (3, 1))
        self.assert_bad("window", small.with_blocks, (1, 3))
        self.assert_bad("blocks", small.with_blocks, (3, 4))
        self.assert_bad("blocks", small.with_blocks, [3, 3])


if __name__ == "__main__":
    unittest.main()
