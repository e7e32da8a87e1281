"""overrounds.units.least: the least interval of a loop on a machine."""

import unittest
from random import Random

from overrounds.errors import InvalidArgument, InvalidLoop, InvalidMachine, InvalidNumber, TooMany
from overrounds.loop.loops import Loop, Operation
from overrounds.plan.machines import Machine
from overrounds.plan.plans import is_plan
from overrounds.rings.starts import free_interval
from overrounds.units.least import bounds, intervals, is_least_paper, least_interval, least_paper
from overrounds.units.trees import has_plan

from samples import (BOTH, FIVE, FOUR, MEET, P, ROUND, SUM, TREE, all_kinds, error_of, machine_for, some_loops)

TWICE = Loop(Operation("a", uses=(("p", 0), ("p", 3))))
FEW = [loop for loop in some_loops(500) if len(loop) <= 4]
FULL = tuple(("p", offset) for offset in range(4))


class Least(unittest.TestCase):
    def test_examples(self):
        self.assertEqual([bounds(MEET, P), least_interval(MEET, P)], [(2, 2), 3])
        self.assertEqual(intervals(TWICE, P, most=6), (2, 4, 5, 6))

    def test_bounds(self):
        self.assertEqual([bounds(SUM, BOTH), bounds(ROUND, Machine()), bounds(MEET, Machine(p=2))],
                         [(2, 2), (3, 1), (2, 1)])
        self.assertEqual([bounds(FIVE, Machine(p=many)) for many in (1, 2, 3)], [(1, 5), (1, 3), (1, 2)])
        full = Loop(*[Operation(name, uses=FULL) for name in "abcdefgh"])
        self.assertEqual(bounds(full, P), (1, 32))
        self.assertEqual(bounds(Loop(Operation("a")), P), (1, 1))

    def test_bounds_of_many_loops(self):
        for loop in FEW:
            machine = machine_for(loop, 2)
            asked = [sum(1 for one in loop.operations for pair in one.uses if pair[0] == unit) for unit in loop.units]
            second = min(b for b in range(1, 40) if all(many <= b * 2 for many in asked))
            self.assertEqual(bounds(loop, machine), (free_interval(loop), second))
            self.assertGreaterEqual(least_interval(loop, machine), max(bounds(loop, machine)))

    def test_a_least_interval_above_both_bounds(self):
        above = [loop for loop in FEW if least_interval(loop, machine_for(loop)) > max(bounds(loop, machine_for(loop)))]
        self.assertGreater(len(above), 5)

    def test_intervals(self):
        for loop in FEW[::5]:
            machine = machine_for(loop)
            told = intervals(loop, machine)
            self.assertEqual(told, tuple(interval for interval in range(1, 33) if has_plan(loop, machine, interval)))
            self.assertEqual((told[0], told[-1]), (least_interval(loop, machine), 32))
            for most in (1, 2, 7):
                self.assertEqual(intervals(loop, machine, most=most), tuple(one for one in told if one <= most))

    def test_an_interval_with_a_plan_whose_next_one_has_none(self):
        self.assertEqual(intervals(TWICE, P), (2, *range(4, 33)))
        self.assertEqual(least_interval(TWICE, P), 2)
        told = [intervals(loop, machine_for(loop)) for loop in FEW]
        others = [row for row in told if len(row) < 33 - row[0]]
        self.assertGreater(len(others), 1)

    def test_most(self):
        self.assertEqual([intervals(SUM, BOTH, most=most) for most in (1, 2, 3)], [(), (2,), (2, 3)])
        self.assertEqual(intervals(SUM, BOTH, most=32), tuple(range(2, 33)))
        self.assertEqual(intervals(SUM, BOTH), intervals(SUM, BOTH, most=32))
        for wrong in (0, 33, -1, True, None, "3", (3,), [], 10 ** 39, SUM):
            kind, error = error_of(intervals, SUM, BOTH, most=wrong)
            self.assertIs(kind, InvalidNumber, wrong)
            self.assertIs(error.value, wrong)

    def test_greatest_least_interval(self):
        letters = "abcdefgh"
        loop = Loop(*[Operation(name, ticks=4, reads=((before, int(name == "a")),), uses=FULL if name in "aceg" else ())
                      for before, name in zip("h" + letters, letters)])
        self.assertEqual((least_interval(loop, P), intervals(loop, P)), (32, (32,)))
        least, starts, trees = least_paper(loop, P)
        self.assertEqual((least, len(trees)), (32, 31))
        self.assertIs(is_least_paper(loop, P, (least, starts, trees)), True)


class Papers(unittest.TestCase):
    def test_many_loops(self):
        draw = Random(9)
        for loop in FEW:
            machine = machine_for(loop, draw.choice((1, 1, 2, 3)))
            least, starts, trees = least_paper(loop, machine)
            self.assertEqual(least, least_interval(loop, machine))
            self.assertTrue(is_plan(loop, machine, least, starts))
            self.assertEqual((type(trees), len(trees)), (tuple, least - 1))
            self.assertIs(is_least_paper(loop, machine, (least, starts, trees)), True)
            self.assertIs(is_least_paper(loop, machine, (least + 1, starts, trees)), False)

    def test_values_near_right_ones(self):
        starts, trees = {"u": 0, "v": 1}, (("circuit", (0, 1)), TREE)
        for value in ((3, starts, trees), (3, {"u": 7, "v": 8}, (("circuit", (1, 0)), TREE))):
            self.assertIs(is_least_paper(MEET, P, value), True)
        for value in [(4, starts, trees), (4, starts, (*trees, TREE)), (4, starts, (*trees, ("circuit", (0, 1)))),
                      (3, starts, trees[:1]), (3, starts, (*trees, TREE)), (3, starts, trees[::-1]), (3, starts, ()),
                      (3, starts, list(trees)), (3, {"u": 0, "v": 2}, trees), (2, starts, trees[:1]), (3, starts),
                      (3, starts, trees, 0), [3, starts, trees], ("3", starts, trees), (True, starts, ()),
                      (0, starts, ()),
                      (33, starts, trees), (-1, starts, trees), (None, starts, trees), (3, ("plan", starts), trees),
                      (3, starts, ("tree", trees)), (3, starts, None), (3, None, trees), (10 ** 39, starts, trees),
                      (3, starts, (("circuit", (0, 1)), None)), *all_kinds()]:
            self.assertIs(is_least_paper(MEET, P, value), False, value)

    def test_a_least_interval_of_one(self):
        loop = Loop(Operation("a", uses=(("p", 0),)))
        least, starts, trees = least_paper(loop, P)
        self.assertEqual((least, list(starts), trees), (1, ["a"], ()))
        self.assertIs(is_least_paper(loop, P, (1, {"a": 5}, ())), True)
        self.assertIs(is_least_paper(loop, P, (True, {"a": 5}, ())), False)

    def test_a_greater_interval_though_a_lesser_one_has_a_plan(self):
        tree = ("split", "a", (("unit", "p", 0),))
        self.assertIs(is_least_paper(TWICE, P, (2, {"a": 0}, (tree,))), True)
        self.assertIs(is_least_paper(TWICE, P, (4, {"a": 0}, (tree, tree, tree))), False)


class Errors(unittest.TestCase):
    CALLS = (bounds, least_interval, intervals, least_paper, lambda loop, machine: is_least_paper(loop, machine, None))

    def test_loops_and_machines(self):
        for call in self.CALLS:
            for wrong in all_kinds():
                if not isinstance(wrong, Loop):
                    self.assertIs(error_of(call, wrong, P)[0], InvalidLoop, wrong)
                if not isinstance(wrong, Machine):
                    self.assertIs(error_of(call, MEET, wrong)[0], InvalidMachine, wrong)
            self.assertIs(error_of(call, SUM, P)[0], InvalidArgument)

    def test_how_many_operations_use_units(self):
        self.assertEqual(least_interval(FOUR, P), 4)
        for call in (least_interval, intervals, least_paper):
            kind, error = error_of(call, FIVE, P)
            self.assertIs(kind, TooMany)
            self.assertEqual(error.limit, 4)
        self.assertEqual(bounds(FIVE, P), (1, 5))
        self.assertIs(is_least_paper(FIVE, P, None), False)

    def test_the_judge_has_no_bound_for_these(self):
        loop = Loop(*[Operation(name, uses=(("p", 0),)) for name in "abcde"])
        tree = ("split", "a", (("split", "b", (("unit", "p", 0),)),))
        machine = Machine(p=1)
        self.assertIs(is_least_paper(loop, machine, (5, {name: at for at, name in enumerate("abcde")}, (tree,))), False)
        three = Machine(p=3)
        deep = ("split", "a", (("split", "b", (("split", "c", (("split", "d", (("unit", "p", 0),)),)),)),))
        self.assertIs(is_least_paper(loop, three, (2, {name: at for at, name in enumerate("abcde")}, (deep,))), True)
        self.assertIs(is_least_paper(loop, three, (2, {name: at for at, name in enumerate("abcde")}, (tree,))), False)

    def test_which_comes_first(self):
        for call in self.CALLS:
            self.assertIs(error_of(call, None, None)[0], InvalidLoop)
            self.assertIs(error_of(call, FIVE, None)[0], InvalidMachine)
            self.assertIs(error_of(call, FIVE, BOTH)[0], InvalidArgument)
        self.assertIs(error_of(intervals, FIVE, None, most=0)[0], InvalidMachine)
        self.assertIs(error_of(intervals, FIVE, BOTH, most=0)[0], InvalidNumber)
        self.assertIs(error_of(intervals, FIVE, BOTH, most=1)[0], InvalidArgument)
        self.assertIs(error_of(intervals, FIVE, P, most=1)[0], TooMany)


if __name__ == "__main__":
    unittest.main()
