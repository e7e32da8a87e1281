"""overrounds.plan.plans: starts, what they ask for, and what does not fit."""

import unittest
from copy import deepcopy
from random import Random

from overrounds.errors import InvalidArgument, InvalidLoop, InvalidMachine, InvalidNumber
from overrounds.loop.loops import Loop, Operation
from overrounds.plan import plans
from overrounds.plan.machines import Machine
from overrounds.plan.plans import asked, faults, is_fitting, is_plan, is_starts, leeway

from samples import (BOTH, GOOD, MEET, NO_INTERVALS, NO_STARTS, P, SUM, all_kinds, error_of, slow_crowded, slow_fits,
                     some_loops)


class Starts(unittest.TestCase):
    def test_constant(self):
        self.assertEqual(plans.MAX_START, 10 ** 6)

    def test_what_is_starts(self):
        for value in (GOOD, {"sum": 0, "item": 0}, {"item": 10 ** 6, "sum": 10 ** 6}, {"item": 0, "sum": 10 ** 6}):
            self.assertIs(is_starts(SUM, value), True)
        for value in NO_STARTS + all_kinds():
            self.assertIs(is_starts(SUM, value), False, value)

    def test_no_loop(self):
        for wrong in all_kinds():
            if not isinstance(wrong, Loop):
                self.assertIs(error_of(is_starts, wrong, GOOD)[0], InvalidLoop)

    def test_starts_stay(self):
        starts = {"sum": 1, "item": 0}
        before = deepcopy(list(starts.items()))
        leeway(SUM, 2, starts)
        asked(SUM, 2, starts)["x", 1] = 1
        faults(SUM, BOTH, 2, starts)
        self.assertEqual(list(starts.items()), before)
        self.assertEqual(asked(SUM, 2, starts), {("add", 0): 1, ("add", 1): 1, ("mem", 0): 1})


class Fitting(unittest.TestCase):
    def test_arcs_met_just_so(self):
        self.assertIs(is_fitting(SUM, 2, {"item": 0, "sum": 1}), True)
        self.assertIs(is_fitting(SUM, 2, {"item": 1, "sum": 1}), False)
        self.assertIs(is_fitting(SUM, 1, {"item": 0, "sum": 1}), False)
        for interval in (2, 3, 31, 32):
            self.assertIs(is_fitting(MEET, interval, {"u": 4, "v": 5}), True)
            self.assertIs(is_fitting(MEET, interval, {"u": 4, "v": 4}), False)
            self.assertIs(is_fitting(MEET, interval, {"u": 4, "v": 3 + interval}), True)
            self.assertIs(is_fitting(MEET, interval, {"u": 4, "v": 4 + interval}), False)
        self.assertIs(is_fitting(MEET, 1, {"u": 4, "v": 5}), False)

    def test_orders_count(self):
        loop = Loop(Operation("a"), Operation("b"), orders=(("a", "b", 4, 0), ("b", "a", 0, 3)))
        self.assertEqual([is_fitting(loop, 1, {"a": 0, "b": at}) for at in range(6)], [False] * 6)
        self.assertEqual([is_fitting(loop, 2, {"a": 0, "b": at}) for at in range(8)],
                         [False] * 4 + [True] * 3 + [False])

    def test_other_values(self):
        for value in NO_STARTS + all_kinds():
            self.assertIs(is_fitting(SUM, 2, value), False, value)
            self.assertIs(is_plan(SUM, BOTH, 2, value), False, value)

    def test_units(self):
        self.assertIs(is_plan(SUM, BOTH, 2, GOOD), True)
        self.assertIs(is_plan(MEET, P, 2, {"u": 0, "v": 1}), False)
        self.assertIs(is_plan(MEET, Machine(p=2), 2, {"u": 0, "v": 1}), True)
        self.assertIs(is_plan(MEET, P, 3, {"u": 0, "v": 1}), True)
        self.assertIs(is_plan(MEET, P, 3, {"u": 0, "v": 2}), False)
        self.assertIs(is_plan(MEET, Machine(p=1, q=1), 32, {"u": 0, "v": 1}), True)

    def test_two_pairs_of_one_operation_at_one_slot(self):
        twice = Loop(Operation("a", uses=(("p", 0), ("p", 3))))
        for interval, wanted in ((1, 2), (2, 1), (3, 2), (4, 1)):
            for start in (0, 7, 10 ** 6):
                self.assertEqual(max(asked(twice, interval, {"a": start}).values()), wanted)
                self.assertIs(is_plan(twice, P, interval, {"a": start}), wanted == 1)
                self.assertIs(is_plan(twice, Machine(p=2), interval, {"a": start}), True)
        four = Loop(Operation("a", uses=(("p", 0), ("p", 1), ("p", 2), ("p", 3))))
        self.assertEqual((asked(four, 1, {"a": 5}), faults(four, Machine(p=3), 1, {"a": 5})),
                         ({("p", 0): 4}, (("unit", "p", 0),)))

    def test_an_interval_of_32_has_a_plan(self):
        letters = "abcdefgh"
        chain = Loop(*[Operation(name, ticks=4, reads=((before, int(name == "a")),))
                       for before, name in zip("h" + letters, letters)])
        starts = {name: 4 * at for at, name in enumerate(letters)}
        self.assertEqual((is_fitting(chain, 32, starts), is_fitting(chain, 31, starts)), (True, False))


class Leeway(unittest.TestCase):
    def test_example(self):
        self.assertEqual(leeway(SUM, 2, GOOD), (0, 0))

    def test_values(self):
        self.assertEqual(leeway(SUM, 1, {"item": 5, "sum": 0}), (-6, -1))
        self.assertEqual(leeway(MEET, 32, {"u": 0, "v": 10 ** 6}), (10 ** 6 - 1, 31 - 10 ** 6))
        self.assertEqual(leeway(Loop(Operation("a")), 1, {"a": 0}), ())

    def test_asked(self):
        self.assertEqual(list(asked(SUM, 2, GOOD).items()), [(("add", 0), 1), (("add", 1), 1), (("mem", 0), 1)])
        self.assertEqual(asked(SUM, 1, GOOD), {("add", 0): 2, ("mem", 0): 1})
        self.assertEqual(asked(MEET, 4, {"u": 6, "v": 5}), {("p", 2): 2})
        self.assertEqual(asked(Loop(Operation("a")), 1, {"a": 0}), {})

    def test_faults_and_their_order(self):
        self.assertEqual(faults(SUM, BOTH, 1, {"item": 0, "sum": 0}), (("arc", 0), ("arc", 1), ("unit", "add", 0)))
        self.assertEqual(faults(SUM, BOTH, 2, GOOD), ())
        many = Loop(*[Operation(name, uses=(("p", 0), ("q", 2), ("q", 3))) for name in "ab"],
                    Operation("c", reads=(("b", 0), ("a", 0))))
        self.assertEqual(faults(many, Machine(p=1, q=1), 4, {"a": 1, "b": 1, "c": 0}),
                         (("arc", 0), ("arc", 1), ("unit", "p", 1), ("unit", "q", 0), ("unit", "q", 3)))
        self.assertEqual(faults(many, Machine(p=2, q=1), 4, {"a": 1, "b": 0, "c": 1}), (("arc", 0), ("unit", "q", 3)))

    def test_many_loops_against_their_definition(self):
        draw, kinds = Random(3), {True: 0, False: 0}
        for loop in some_loops(300):
            machine = Machine.of({unit: draw.randint(1, 3) for unit in loop.units})
            interval = draw.choice((1, 2, 3, 5, 8, 16, 32))
            starts = {name: draw.randint(0, 12) for name in loop.names}
            left = leeway(loop, interval, starts)
            self.assertEqual(left, tuple(starts[b] - starts[a] - delay + interval * back
                                         for a, b, delay, back in loop.arcs))
            told = faults(loop, machine, interval, starts)
            late = [("arc", at) for at, ticks in enumerate(left) if ticks < 0]
            crowded = [("unit", *place) for place in slow_crowded(loop, machine, interval, starts)]
            self.assertEqual(told, tuple(late + crowded))
            self.assertIs(is_fitting(loop, interval, starts), slow_fits(loop, interval, starts))
            self.assertIs(is_plan(loop, machine, interval, starts), told == ())
            kinds[told == ()] += 1
        self.assertGreater(min(kinds.values()), 20)

    def test_a_plan_stays_one(self):
        for loop in some_loops(120):
            machine = Machine.of({unit: 1 for unit in loop.units})
            starts = {name: 4 * at for at, name in enumerate(loop.names)}
            for interval in range(1, 17):
                if is_plan(loop, machine, interval, starts):
                    self.assertTrue(is_plan(loop, machine, interval, {name: at + 5 for name, at in starts.items()}))
                    self.assertTrue(is_plan(loop, machine + machine, interval, starts))
                    self.assertTrue(is_plan(loop, machine, 2 * interval, starts))
        twice = Loop(Operation("a", uses=(("p", 0), ("p", 3))))
        self.assertEqual([is_plan(twice, P, interval, {"a": 0}) for interval in (2, 3)], [True, False])


class Errors(unittest.TestCase):
    def test_intervals(self):
        for call in (lambda t: is_fitting(SUM, t, GOOD), lambda t: leeway(SUM, t, GOOD), lambda t: asked(SUM, t, GOOD),
                     lambda t: is_plan(SUM, BOTH, t, GOOD), lambda t: faults(SUM, BOTH, t, GOOD)):
            for interval in (1, 32):
                self.assertIsNone(error_of(call, interval)[0])
            for wrong in NO_INTERVALS:
                kind, error = error_of(call, wrong)
                self.assertIs(kind, InvalidNumber, wrong)
                self.assertIs(error.value, wrong)

    def test_starts(self):
        for wrong in NO_STARTS + all_kinds():
            for call in (lambda: leeway(SUM, 2, wrong), lambda: asked(SUM, 2, wrong),
                         lambda: faults(SUM, BOTH, 2, wrong)):
                self.assertIs(error_of(call)[0], InvalidArgument, wrong)

    def test_loops_and_machines(self):
        for wrong in all_kinds():
            if not isinstance(wrong, Loop):
                for call in (lambda: is_fitting(wrong, 2, GOOD), lambda: leeway(wrong, 2, GOOD),
                             lambda: asked(wrong, 2, GOOD), lambda: is_plan(wrong, BOTH, 2, GOOD),
                             lambda: faults(wrong, BOTH, 2, GOOD)):
                    self.assertIs(error_of(call)[0], InvalidLoop, wrong)
            if not isinstance(wrong, Machine):
                for call in (lambda: is_plan(SUM, wrong, 2, GOOD), lambda: faults(SUM, wrong, 2, GOOD)):
                    self.assertIs(error_of(call)[0], InvalidMachine, wrong)

    def test_a_unit_that_the_machine_does_not_have(self):
        for machine in (Machine(), Machine(add=3), Machine(mem=1, p=1)):
            self.assertIs(error_of(is_plan, SUM, machine, 2, GOOD)[0], InvalidArgument)
            self.assertIs(error_of(is_plan, SUM, machine, 2, None)[0], InvalidArgument)
            self.assertIs(error_of(faults, SUM, machine, 2, GOOD)[0], InvalidArgument)

    def test_which_comes_first(self):
        for call in (is_plan, faults):
            self.assertIs(error_of(call, None, None, 0, None)[0], InvalidLoop)
            self.assertIs(error_of(call, SUM, None, 0, None)[0], InvalidMachine)
            self.assertIs(error_of(call, SUM, P, 0, None)[0], InvalidNumber)
            self.assertIs(error_of(call, SUM, P, 1, None)[0], InvalidArgument)
        for call in (is_fitting, leeway, asked):
            self.assertIs(error_of(call, None, 0, None)[0], InvalidLoop)
            self.assertIs(error_of(call, SUM, 0, None)[0], InvalidNumber)


if __name__ == "__main__":
    unittest.main()
