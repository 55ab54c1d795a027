"""Points 32 and 33: certificates, and what is wrong with a table of prices."""

import copy
import inspect
import unittest

from model import Model, graph_of, prices_of
from odd import NO_NUMBERS
from samples import (
    BIG, COMMIT, DROP, END, FRESH, HUGE, LEAVE, LOSER, MAYBE, MEASURES, NONE, PAIR, SHORT, STOP, SYSTEMS, TAKE, one,
    two,
)
from takenahead.certificates import certificate, certificate_fault
from takenahead.errors import NoMeasure, TooMany
from takenahead.measures import greatest
from takenahead.states import reached, start, steps

WINDOW = two(SHORT, SHORT, (2, 2), window=4)
SMALL = one(*SHORT, block=2)


def most_of(system, measure):
    """The greatest value of a system that is not endless, or None."""
    value = greatest(system, measure)
    return value[1] if value[0] == "most" else None


def is_right(graph, first, prices, most, fault):
    """Tells whether a fault is one that point 33 allows, by the graph of the slow program."""
    def less(one, other):
        return other is not None and (one is None or one < other)

    if first not in prices or less(most, prices[first]):
        return fault == ("start",)
    allowed = [("end",)] if prices.get(END, 0) != 0 or END in prices and prices[END] is None else []
    for state, price in prices.items():
        for step, offsets, result, gain in graph[state]:
            if result not in prices:
                allowed.append(("missing", state, step))
            elif prices[result] is not None and less(price, gain + prices[result]):
                allowed.append(("price", state, step))
    return fault in allowed if allowed else fault is None


class Interface(unittest.TestCase):
    def test_signatures(self):
        for call, text in (
            (certificate, "(system, measure)"),
            (certificate_fault, "(system, measure, certificate, most)"),
        ):
            self.assertEqual(str(inspect.signature(call)), text)
            self.assertEqual(call.__module__, "takenahead.certificates")


class Certificate(unittest.TestCase):
    """Point 32."""

    def test_small(self):
        self.assertEqual(
            certificate(one(*SHORT), "spread"),
            {
                (("no", "no"), 0, 0, (FRESH,)): 1,
                (("no", "no"), 0, 0, (((1,), (), ((0, 0),), ()),)): 1,
                (("out", "no"), 0, 0, (((1,), (), ((0, 1),), ()),)): 0,
                END: 0,
            },
        )
        # No road leads to the end, which is no key then.
        self.assertEqual(
            certificate(one(*SHORT), "late"),
            {
                (("no", "no"), 0, 0, (FRESH,)): None,
                (("no", "no"), 0, 0, (((1,), (), ((0, 0),), ()),)): None,
                (("out", "no"), 0, 0, (((1,), (), ((0, 1),), ()),)): None,
            },
        )
        self.assertEqual(certificate(one(DROP), "gap"), {(("no", "no"), 0, 0, (FRESH,)): None})

    def test_endless(self):
        for system, measure in (
            (two(SHORT, SHORT), "late"), (two(SHORT, SHORT), "spread"), (one(*MAYBE), "gap"),
            (one(*LOSER, block=2), "gap"),
        ):
            self.assertIsNone(certificate(system, measure))
        # A gain without an end, but only where no road leads to the end.
        prices = certificate(two((TAKE, ("choose", (), ())), SHORT), "late")
        self.assertEqual(set(prices.values()), {None})

    def test_all_systems(self):
        for number, system in enumerate(SYSTEMS):
            for measure in MEASURES:
                with self.subTest(number, measure=measure):
                    found = certificate(system, measure)
                    self.assertEqual(found, prices_of(graph_of(system, measure)))
                    if found is None:
                        self.assertEqual(greatest(system, measure), ("endless",))
                        continue
                    self.assertIs(type(found), dict)
                    self.assertEqual(set(found), set(reached(system, measure)))
                    self.assertEqual(found[start(system, measure)], most_of(system, measure))
                    self.assertEqual(found.get(END, 0), 0)

    def test_each_price_is_the_greatest_sum(self):
        for measure in MEASURES:
            prices = certificate(WINDOW, measure)
            for state, price in prices.items():
                sums = [
                    gain + prices[result]
                    for step, offsets, result, gain in steps(WINDOW, measure, state) if prices[result] is not None
                ]
                self.assertEqual(price, 0 if state == END else max(sums, default=None))

    def test_results_are_new(self):
        first = certificate(WINDOW, "late")
        same = dict(first)
        for state in first:
            first[state] = 7
        first.popitem()
        self.assertEqual(certificate(WINDOW, "late"), same)


class CertificateFault(unittest.TestCase):
    """Point 33."""

    def setUp(self):
        self.first = start(SMALL, "spread")
        self.prices = certificate(SMALL, "spread")

    def assert_fault(self, expected, system, measure, prices, most):
        before = dict(prices)
        self.assertEqual(certificate_fault(system, measure, prices, most), expected)
        self.assertEqual(prices, before)

    def assert_faults(self, system, measure, prices, mosts=(None, -1, 0, 1, 2, 3, 4, 7, HUGE)):
        """Compares the fault with what is allowed, for several bounds."""
        graph, first = graph_of(system, measure), Model(system).state(None, None)
        before = copy.deepcopy(prices)
        for most in mosts:
            fault = certificate_fault(system, measure, prices, most)
            self.assertTrue(is_right(graph, first, prices, most, fault), fault)
        self.assertEqual(prices, before)

    def test_none(self):
        for system, measure, most in (
            (SMALL, "spread", 2), (SMALL, "spread", 3), (SMALL, "spread", HUGE), (SMALL, "late", None),
            (SMALL, "late", 0), (SMALL, "late", -1), (SMALL, "gap", 0), (WINDOW, "late", 3), (WINDOW, "spread", 4),
            (one(DROP), "gap", None), (one(DROP), "gap", -5),
        ):
            self.assert_fault(None, system, measure, certificate(system, measure), most)

    def test_start(self):
        for most in (1, 0, -1, None, -HUGE):
            self.assert_fault(("start",), SMALL, "spread", self.prices, most)
        self.assert_fault(("start",), WINDOW, "late", certificate(WINDOW, "late"), 2)
        self.assert_fault(("start",), WINDOW, "late", certificate(WINDOW, "late"), None)
        for most in (None, 0, 2, HUGE):
            self.assert_fault(("start",), SMALL, "spread", {}, most)
            self.assert_fault(("start",), SMALL, "spread", {END: 1}, most)
            without = dict(self.prices)
            del without[self.first]
            self.assert_fault(("start",), SMALL, "spread", without, most)
        # The fault of the start comes first.
        self.assert_fault(("start",), SMALL, "spread", {self.first: 3, END: 5}, 2)

    def test_start_with_no_price(self):
        # None is not greater than any bound, so the fault is another one.
        self.prices[self.first] = None
        for most in (None, -1, 0, 2):
            fault = certificate_fault(SMALL, "spread", self.prices, most)
            self.assertEqual(fault[:2], ("price", self.first))
            self.assertEqual(fault[2], (0, 0))

    def test_end(self):
        for price in (None, 1, -1, HUGE, -HUGE):
            # All other prices are great enough for it.
            prices = {state: HUGE for state in self.prices}
            prices[END] = price
            self.assert_fault(("end",), SMALL, "spread", prices, HUGE)
        # The end is checked even where it cannot be reached.
        self.assert_fault(("end",), SMALL, "late", {**certificate(SMALL, "late"), END: 1}, None)

    def test_missing(self):
        for state in self.prices:
            if state == self.first:
                continue
            prices = {other: price for other, price in self.prices.items() if other != state}
            fault = certificate_fault(SMALL, "spread", prices, 2)
            self.assertEqual(fault[0], "missing")
            self.assertIn(
                (fault[2], state), [(step, result) for step, offsets, result, gain in steps(SMALL, "spread", fault[1])],
            )
            self.assertIn(fault[1], prices)
        self.assertEqual(certificate_fault(SMALL, "spread", {self.first: 2}, 2), ("missing", self.first, (0, 0)))

    def test_missing_end(self):
        prices = {other: price for other, price in self.prices.items() if other != END}
        fault = certificate_fault(SMALL, "spread", prices, 2)
        self.assertEqual((fault[0], fault[2]), ("missing", STOP))

    def test_missing_crash(self):
        system = one(DROP, crashes=1)
        prices = certificate(system, "gap")
        del prices[(("no", "no"), 0, 0, (FRESH,))]
        self.assert_fault(("missing", start(system, "gap"), ("crash",)), system, "gap", prices, None)

    def test_price(self):
        # The start has the gain 2 for the offsets (0, None).
        state = (("out", "no"), 0, 0, (((1,), (), ((0, 1),), ((0, 2),)),))
        self.assertIn(((0, 0), (0, None), state, 2), steps(SMALL, "spread", self.first))
        for price in (1, 0, -1, -HUGE, None):
            prices = dict(self.prices)
            prices[self.first] = price
            for most in (2, HUGE):
                self.assertEqual(certificate_fault(SMALL, "spread", prices, most)[0], "price")
        prices = dict(self.prices)
        prices[state] = None
        self.assert_fault(("price", state, STOP), SMALL, "spread", prices, 2)
        prices[state] = -1
        self.assert_fault(("price", state, STOP), SMALL, "spread", prices, 2)

    def test_prices_that_are_none(self):
        # A result without a price asks for nothing, and a state without a price only for such results.
        self.assert_fault(None, SMALL, "late", dict.fromkeys(certificate(SMALL, "late")), None)
        # Any integer is a price above None, also for the bound and for the state before it.
        system = one(*SHORT)
        prices = dict.fromkeys(certificate(system, "late"))
        prices[start(system, "late")] = -HUGE
        self.assert_fault(("start",), system, "late", prices, None)
        taken = (("no", "no"), 0, 0, (((1,), (), ((0, 0),), ()),))
        self.assert_fault(("price", taken, (0, 0)), system, "late", prices, -HUGE)
        prices[taken] = -HUGE
        self.assert_fault(None, system, "late", prices, -HUGE)
        self.assert_fault(("start",), system, "late", prices, -HUGE - 1)

    def test_great_prices(self):
        prices = {state: 0 if state == END else HUGE for state in self.prices}
        # The gains make the price of the start too small.
        self.assertEqual(certificate_fault(SMALL, "spread", prices, HUGE)[:2], ("price", self.first))
        prices[self.first] = HUGE + 2
        self.assertEqual(certificate_fault(SMALL, "spread", prices, HUGE), ("start",))
        no_first = (("no", "no"), 0, 0, (((1,), (), ((0, 0),), ((0, 0),)),))
        self.assertIn(no_first, prices)
        self.assert_faults(SMALL, "spread", prices, (HUGE, HUGE + 2, HUGE + 3))

    def test_greater_prices_are_no_fault(self):
        # Any table that no schedule can exceed is as good as the least one.
        prices = {state: 2 * price for state, price in certificate(WINDOW, "late").items() if price is not None}
        for state in reached(WINDOW, "late"):
            prices.setdefault(state, None)
        self.assert_fault(None, WINDOW, "late", prices, 6)
        self.assert_fault(("start",), WINDOW, "late", prices, 5)

    def test_each_changed_price(self):
        for system, measure in (
            (SMALL, "spread"), (one(*SHORT, block=2), "gap"), (one(*SHORT, ahead=1, crashes=1), "gap"),
            (one(TAKE, TAKE, ("choose", (LEAVE,), (COMMIT,)), block=2), "late"), (one(*PAIR, window=2), "spread"),
        ):
            prices = certificate(system, measure)
            most = most_of(system, measure)
            for state in prices:
                for price in {None, 0, 1, (prices[state] or 0) - 1, (prices[state] or 0) + 1, HUGE}:
                    self.assert_faults(system, measure, {**prices, state: price}, (most, None, HUGE))
                less = {other: price for other, price in prices.items() if other != state}
                self.assert_faults(system, measure, less, (most, None, HUGE))

    def test_all_systems(self):
        for number, system in enumerate(SYSTEMS):
            for measure in MEASURES:
                with self.subTest(number, measure=measure):
                    prices = certificate(system, measure)
                    states = list(reached(system, measure))
                    if prices is not None:
                        most = most_of(system, measure)
                        self.assert_fault(None, system, measure, prices, most)
                        if most is not None:
                            self.assert_fault(("start",), system, measure, prices, most - 1)
                    else:
                        # No table can show a bound where there is none.
                        for price in (None, 0, HUGE):
                            table = {state: 0 if state == END else price for state in states}
                            self.assertIsNotNone(certificate_fault(system, measure, table, HUGE))

    def test_never_too_many(self):
        for measure in MEASURES:
            first = start(BIG, measure)
            self.assertEqual(certificate_fault(BIG, measure, {}, None), ("start",))
            fault = certificate_fault(BIG, measure, {first: 5}, 5)
            self.assertEqual(fault[:2], ("missing", first))
            self.assertIn(fault[2], [(0, 0), (1, 0), (2, 0)])


class Errors(unittest.TestCase):
    def test_no_measure_first(self):
        for measure in list(NO_NUMBERS) + ["", "Late", b"late", ("late",)]:
            for system in (SMALL, BIG):
                for call, *values in (
                    (certificate,), (certificate_fault, {}, None), (certificate_fault, {END: 1}, 1),
                ):
                    with self.assertRaises(NoMeasure) as caught:
                        call(system, measure, *values)
                    self.assertIs(caught.exception.measure, measure)

    def test_too_many(self):
        for measure in MEASURES:
            with self.assertRaises(TooMany) as caught:
                certificate(BIG, measure)
            self.assertEqual(caught.exception.limit, 2000)


if __name__ == "__main__":
    unittest.main()
