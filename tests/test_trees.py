"""overrounds.units.trees: circuits by told slots, and trees of cases."""

import unittest
from itertools import permutations
from random import Random

from overrounds.errors import InvalidArgument, InvalidLoop, InvalidMachine, InvalidNumber, TooMany
from overrounds.loop.loops import Loop, Operation
from overrounds.plan.machines import Machine
from overrounds.plan.plans import is_fitting, is_plan, times_asked
from overrounds.rings.ratios import unrolled
from overrounds.units import trees
from overrounds.units.trees import (has_plan, interval_paper, is_interval_paper, is_slots_paper, need, slots_paper)

from samples import (BOTH, FIVE, FOUR, MEET, NO_INTERVALS, P, ROUND, SUM, TREE, all_kinds, error_of, machine_for,
                     slow_need, slow_rings, some_loops, told_slots)

LOOPS = [loop for loop in some_loops(500) if len(loop) <= 4]
# From a to b and back again there are ways through w alone.
EIGHT_SHAPED = Loop(Operation("a"), Operation("b"), Operation("w"),
                    orders=(("a", "w", 1, 0), ("b", "w", 1, 1), ("w", "a", 1, 1), ("w", "b", 1, 0)))
SELF = Loop(Operation("a", reads=(("a", 1), ("a", 2))))


def slow_has_plan(loop, machine, interval):
    """Whether some slots have a plan, by trying all."""
    for slots in told_slots(loop.names, interval):
        kind, starts = slots_paper(loop, interval, slots)
        if kind == "starts" and is_plan(loop, machine, interval, starts):
            return True
    return False


def slow_tree(loop, machine, interval, order, slots):
    """A tree that splits the operations in this order, each for all slots."""
    for (unit, slot), many in times_asked(loop, interval, slots).items():
        if many > machine[unit]:
            return ("unit", unit, slot)
    kind, found = slots_paper(loop, interval, slots)
    if kind == "circuit":
        return (kind, found)
    name = order[len(slots)]
    return ("split", name, tuple(slow_tree(loop, machine, interval, order, {**slots, name: slot})
                                 for slot in range(interval)))


def some_circuits(loop, draw):
    """Circuits of a loop, by walking about on its arcs."""
    found = []
    for _ in range(12):
        if not loop.arcs:
            break
        row = [draw.randrange(len(loop.arcs))]
        for _ in range(20):
            if loop.arcs[row[-1]][1] == loop.arcs[row[0]][0]:
                found.append(tuple(row))
            onwards = [at for at, arc in enumerate(loop.arcs) if arc[0] == loop.arcs[row[-1]][1]]
            if not onwards:
                break
            row.append(draw.choice(onwards))
    return found


class Need(unittest.TestCase):
    def test_examples(self):
        self.assertEqual(
            [MEET.arcs, need(MEET, 2, {}, (0, 1)), need(MEET, 2, {"u": 0}, (0, 1)),
             need(MEET, 2, {"u": 0, "v": 0}, (0, 1))],
            [(("u", "v", 1, 0), ("v", "u", 1, 1)), 0, 0, 2])

    def test_no_told_slot_on_the_circuit(self):
        self.assertEqual([need(ROUND, interval, {}, (0, 1, 2)) for interval in (1, 2, 3, 32)], [3, 1, -1, -59])
        self.assertEqual(need(SUM, 5, {"item": 3}, (1,)), -3)

    def test_one_told_slot(self):
        self.assertEqual([need(ROUND, interval, {"b": 0}, (0, 1, 2)) for interval in (1, 2, 3, 32)], [3, 2, 0, -32])
        self.assertEqual([need(ROUND, 3, {"b": slot}, (2, 0, 1)) for slot in range(3)], [0, 0, 0])
        self.assertEqual([need(SUM, interval, {"sum": 0}, (1,)) for interval in (1, 2, 3, 32)], [1, 0, 0, 0])

    def test_several_told_slots(self):
        self.assertEqual([need(MEET, 3, {"u": 0, "v": slot}, (0, 1)) for slot in range(3)], [3, 0, 0])
        self.assertEqual([need(MEET, 3, {"u": 2, "v": slot}, (1, 0)) for slot in range(3)], [0, 0, 3])
        self.assertEqual(need(ROUND, 3, {"a": 0, "b": 2, "c": 0}, (0, 1, 2)), 0)
        self.assertEqual(need(ROUND, 3, {"a": 0, "b": 1, "c": 0}, (0, 1, 2)), 3)
        self.assertEqual(need(ROUND, 3, {"a": 0, "b": 1, "c": 1}, (0, 1, 2)), 3)

    def test_an_operation_more_than_once(self):
        around = (0, 3, 1, 2)
        self.assertEqual([EIGHT_SHAPED.arcs[at] for at in around],
                         [("a", "w", 1, 0), ("w", "b", 1, 0), ("b", "w", 1, 1), ("w", "a", 1, 1)])
        self.assertEqual([need(EIGHT_SHAPED, 2, slots, around) for slots in
                          ({}, {"w": 0}, {"w": 1}, {"a": 0}, {"a": 0, "b": 0}, {"a": 0, "b": 1},
                           {"a": 0, "b": 1, "w": 1})],
                         [0, 0, 0, 0, 0, 2, 2])
        # Two rounds of one ring need twice as much.
        self.assertEqual([need(ROUND, 2, slots, (0, 1, 2) * 2) for slots in ({}, {"a": 1})], [2, 4])
        self.assertEqual([need(SELF, 3, slots, (0, 1, 0)) for slots in ({}, {"a": 2})], [-9, -3])
        self.assertEqual([need(SELF, 5, {"a": 0}, circuit) for circuit in ((0,), (1,), (0, 1), (0, 0, 1))],
                         [0, -5, -5, -5])

    def test_it_may_begin_anywhere(self):
        draw = Random(2)
        for loop in LOOPS[:80]:
            slots = {name: draw.randrange(4) for name in loop.names if draw.random() < 0.6}
            for circuit in some_circuits(loop, draw):
                wanted = slow_need(loop, 4, slots, circuit)
                for at in range(len(circuit)):
                    self.assertEqual(need(loop, 4, slots, circuit[at:] + circuit[:at]), wanted)

    def test_against_a_walk(self):
        draw, seen = Random(4), 0
        for loop in LOOPS:
            interval = draw.choice((1, 2, 3, 7, 32))
            slots = {name: draw.randrange(interval) for name in loop.names if draw.random() < 0.6}
            for circuit in some_circuits(loop, draw):
                seen += 1
                self.assertEqual(need(loop, interval, slots, circuit), slow_need(loop, interval, slots, circuit))
        self.assertGreater(seen, 300)

    def test_how_many_indices(self):
        self.assertEqual([need(SELF, 1, {}, (1,) * many) for many in (1, 2, 63, 64)], [-1, -2, -63, -64])
        for wrong in ((), (1,) * 65, (1,) * 1000):
            self.assertIs(error_of(need, SELF, 1, {}, wrong)[0], InvalidArgument)

    def test_what_is_no_circuit(self):
        for wrong in [(0,), (1,), (0, 2, 1), (0, 1), (1, 2), (0, 1, 2, 0), (0, 1, 3), (0, 1, -1), (False, 1, 2),
                      (0, True, 2),
                      (0, 1, "2"), (0, 1, None), [0, 1, 2], {0: 1}, "012", 0, (0, 1, (2,)), (0, 1, 10 ** 39), ROUND,
                      *all_kinds()]:
            self.assertIs(error_of(need, ROUND, 3, {}, wrong)[0], InvalidArgument, wrong)
        self.assertIs(error_of(need, Loop(Operation("a")), 3, {}, (0,))[0], InvalidArgument)

    def test_what_is_no_told_slots(self):
        for call in (lambda slots: need(ROUND, 3, slots, (0, 1, 2)), lambda slots: slots_paper(ROUND, 3, slots),
                     lambda slots: is_slots_paper(ROUND, 3, slots, None)):
            for good in ({}, {"a": 0}, {"c": 2, "a": 1}, {"a": 0, "b": 1, "c": 2}):
                self.assertIsNone(error_of(call, good)[0])
            for wrong in [{"d": 0}, {"a": 3}, {"a": -1}, {"a": True}, {"a": False}, {"a": None}, {"a": "0"},
                          {"a": (0,)},
                          {"a": 0, "d": 0}, {"a": 0, 1: 0}, {None: 0}, {("a",): 0}, {"a": 10 ** 39}, {"a": [0]},
                          (("a", 0),),
                          ["a"], (), [], None, 0, "a", True, ROUND, P]:
                self.assertIs(error_of(call, wrong)[0], InvalidArgument, wrong)

    def test_errors(self):
        for wrong in all_kinds():
            if not isinstance(wrong, Loop):
                for call in (lambda: need(wrong, 3, {}, (0,)), lambda: slots_paper(wrong, 3, {}),
                             lambda: is_slots_paper(wrong, 3, {}, None)):
                    self.assertIs(error_of(call)[0], InvalidLoop, wrong)
        for wrong in NO_INTERVALS:
            for call in (lambda: need(ROUND, wrong, {}, (0, 1, 2)), lambda: slots_paper(ROUND, wrong, {}),
                         lambda: is_slots_paper(ROUND, wrong, {}, None)):
                kind, error = error_of(call)
                self.assertIs(kind, InvalidNumber, wrong)
                self.assertIs(error.value, wrong)

    def test_which_comes_first(self):
        for call in (slots_paper, lambda *told: need(*told, None), lambda *told: is_slots_paper(*told, None)):
            self.assertIs(error_of(call, None, 0, None)[0], InvalidLoop)
            self.assertIs(error_of(call, ROUND, 0, None)[0], InvalidNumber)
            self.assertIs(error_of(call, ROUND, 1, None)[0], InvalidArgument)


class Slots(unittest.TestCase):
    def test_exactly_one_of_two(self):
        # With all slots told, starts exist exactly if each ring, in whole rounds, fits.
        kinds = {"starts": 0, "circuit": 0}
        for loop in LOOPS[::3]:
            for interval in (1, 2, 3):
                for slots in told_slots(loop.names, interval):
                    gains = any(slow_need(loop, interval, slots, ring) > 0 for ring in slow_rings(loop))
                    kind, found = slots_paper(loop, interval, slots)
                    kinds[kind] += 1
                    self.assertEqual(kind, "circuit" if gains else "starts")
                    self.assert_right(loop, interval, slots, (kind, found))
        self.assertGreater(min(kinds.values()), 500)

    def test_with_some_slots(self):
        draw, kinds = Random(6), {"starts": 0, "circuit": 0}
        for loop in LOOPS:
            for interval in (1, 2, 3):
                some = [name for name in loop.names if draw.random() < 0.5]
                others = [name for name in loop.names if name not in some]
                slots = {name: draw.randrange(interval) for name in some}
                paper = slots_paper(loop, interval, slots)
                kinds[paper[0]] += 1
                self.assert_right(loop, interval, slots, paper)
                whole = [slots_paper(loop, interval, {**slots, **more})[0] for more in told_slots(others, interval)]
                self.assertEqual(paper[0] == "starts", "starts" in whole)
        self.assertGreater(min(kinds.values()), 100)

    def assert_right(self, loop, interval, slots, paper):
        self.assertIs(is_slots_paper(loop, interval, slots, paper), True)
        kind, found = paper
        if kind == "starts":
            self.assertTrue(is_fitting(loop, interval, found))
            self.assertEqual({name: found[name] % interval for name in slots}, slots)
            self.assertTrue(0 <= min(found.values()) and max(found.values()) <= 10 ** 6)
            self.assertEqual(list(found), list(loop.names))
            self.assertIs(is_slots_paper(loop, interval, slots, ("circuit", found)), False)
        else:
            self.assertGreater(slow_need(loop, interval, slots, found), 0)
            self.assertLessEqual(len(found), 64)
            self.assertIs(is_slots_paper(loop, interval, slots, ("starts", found)), False)

    def test_circuits_that_are_no_ring(self):
        slots = {"a": 0, "b": 1}
        self.assertTrue(all(slow_need(EIGHT_SHAPED, 2, slots, ring) <= 0 for ring in slow_rings(EIGHT_SHAPED)))
        kind, circuit = slots_paper(EIGHT_SHAPED, 2, slots)
        self.assertEqual((kind, sorted(circuit)), ("circuit", [0, 1, 2, 3]))
        for at in range(4):
            around = ((0, 3, 1, 2) * 2)[at:at + 4]
            self.assertIs(is_slots_paper(EIGHT_SHAPED, 2, slots, ("circuit", around)), True)
            self.assertIs(is_slots_paper(EIGHT_SHAPED, 2, {"a": 0, "b": 0}, ("circuit", around)), False)
            self.assertIs(is_slots_paper(EIGHT_SHAPED, 2, slots, ("circuit", around * 16)), True)
            self.assertIs(is_slots_paper(EIGHT_SHAPED, 2, slots, ("circuit", around * 17)), False)

    def test_a_circuit_that_gains_by_rounding_alone(self):
        self.assertEqual(slots_paper(MEET, 2, {"u": 0, "v": 0})[0], "circuit")
        self.assertIs(is_slots_paper(MEET, 2, {"u": 0, "v": 0}, ("circuit", (1, 0))), True)
        self.assertIs(is_slots_paper(MEET, 2, {"u": 0, "v": 1}, ("circuit", (1, 0))), False)
        self.assertIs(is_slots_paper(MEET, 2, {"u": 0}, ("circuit", (1, 0))), False)
        self.assertEqual(slots_paper(MEET, 2, {"u": 0})[0], "starts")

    def test_values_near_right_ones(self):
        slots = {"u": 1, "v": 0}
        for starts in ({"u": 1, "v": 2}, {"v": 4, "u": 3}, {"u": 10 ** 6 - 1, "v": 10 ** 6}):
            self.assertIs(is_slots_paper(MEET, 2, slots, ("starts", starts)), True)
        for value in [("starts", {"u": 0, "v": 1}), ("starts", {"u": 1, "v": 0}), ("starts", {"u": 1, "v": 4}),
                      ("starts", {"u": 1}), ("starts", {"u": 1, "v": 2, "w": 0}), ("starts", {"u": True, "v": 2}),
                      ("starts", {"u": 10 ** 6 + 1, "v": 10 ** 6 + 2}), ("starts", {"u": -1, "v": 0}),
                      ("plan", {"u": 1, "v": 2}),
                      ("starts", {"u": 1, "v": 2}, 0), ["starts", {"u": 1, "v": 2}], ("starts",), ("circuit", ()),
                      ("circuit", (0, 1)), ("circuit", (0, 1, 0, 1)), {"u": 1, "v": 2}, *all_kinds(),
                      *[(kind, value) for kind in ("starts", "circuit") for value in all_kinds()]]:
            self.assertIs(is_slots_paper(MEET, 2, slots, value), False, value)

    def test_slots_stay(self):
        slots = {"v": 0, "u": 1}
        paper = slots_paper(MEET, 2, slots)
        paper[1]["u"] = 9
        self.assertEqual((list(slots.items()), slots_paper(MEET, 2, slots)),
                         ([("v", 0), ("u", 1)], ("starts", {"u": 1, "v": 2})))

    def test_long_circuits(self):
        # All eight slots told: each stretch is one arc, and the circuit is the only ring.
        letters = "abcdefgh"
        loop = Loop(*[Operation(name, reads=((before, int(name == "a")),))
                      for before, name in zip("h" + letters, letters)])
        kind, circuit = slots_paper(loop, 9, {name: 0 for name in letters})
        self.assertEqual((kind, sorted(circuit)), ("circuit", list(range(8))))
        self.assertEqual(slots_paper(loop, 9, {name: at for at, name in enumerate(letters)})[0], "starts")


class Trees(unittest.TestCase):
    def is_right(self, tree, interval=2, loop=MEET, machine=P):
        told = is_interval_paper(loop, machine, interval, ("tree", tree))
        self.assertIs(type(told), bool)
        return told

    def test_example(self):
        self.assertTrue(self.is_right(TREE))

    def test_constant(self):
        self.assertEqual(trees.MAX_ASKING, 4)

    def test_all_three_kinds(self):
        self.assertTrue(self.is_right(("circuit", (0, 1)), interval=1))
        self.assertTrue(self.is_right(("split", "v", (("split", "u", (("circuit", (1, 0)), ("unit", "p", 1))),))))
        crowded = Loop(Operation("a", uses=(("p", 0), ("p", 3))))
        self.assertTrue(self.is_right(("split", "a", (("unit", "p", 0),)), 3, crowded))
        self.assertFalse(self.is_right(("unit", "p", 0), 3, crowded))
        self.assertFalse(self.is_right(("circuit", (0, 1))))
        for word in ("ring", "Circuit", "split", "unit", "tree", None, ("circuit",)):
            self.assertFalse(self.is_right((word, (0, 1)), interval=1))
            self.assertIs(is_slots_paper(MEET, 2, {"u": 0, "v": 0}, (word, (0, 1))), False)

    def test_one_tree_or_all_at_the_first_split(self):
        first = TREE[2][0]
        second = ("split", "v", (("unit", "p", 1), ("circuit", (0, 1))))
        self.assertTrue(self.is_right(("split", "u", (first, second))))
        self.assertFalse(self.is_right(("split", "u", (second, first))))
        self.assertFalse(self.is_right(("split", "u", (first, first))))
        self.assertFalse(self.is_right(("split", "u", (second,))))
        self.assertFalse(self.is_right(("split", "u", (first, second, first))))
        self.assertFalse(self.is_right(("split", "u", ())))

    def test_one_tree_at_a_later_split(self):
        self.assertFalse(self.is_right(("split", "u", (("split", "v", (("circuit", (0, 1)),)),))))
        more = ("split", "v", (("circuit", (0, 1)), ("unit", "p", 0), ("unit", "p", 0)))
        self.assertFalse(self.is_right(("split", "u", (more,))))

    def test_told_operations_are_not_split_again(self):
        # Each leaf is right for the slot that its split tells, and yet u is told already.
        again = ("split", "u", (("circuit", (0, 1)), ("unit", "p", 1)))
        self.assertFalse(self.is_right(("split", "u", (("split", "v", (again, ("unit", "p", 0))),))))
        other = ("split", "v", (("circuit", (0, 1)), ("unit", "p", 0)))
        self.assertFalse(self.is_right(("split", "u", (("split", "v", (other, ("unit", "p", 0))),))))
        self.assertFalse(self.is_right(("split", "u", (("split", "u", (TREE[2][0], TREE[2][0])),))))

    def test_circuits_that_do_not_gain(self):
        self.assertFalse(self.is_right(("split", "u", (("split", "v", (("circuit", (0, 1)), ("circuit", (0, 1)))),))))
        self.assertFalse(self.is_right(("split", "u", (("circuit", (0, 1)),))))

    def test_units_that_are_not_asked_for_too_often(self):
        for unit in (("unit", "p", 1), ("unit", "q", 0), ("unit", "p", 2), ("unit", "p", -2), ("unit", "p", False),
                     ("unit", "p", None), ("unit", None, 0), ("unit", ["p"], 0), ("unit", {}, 0), ("unit", "p"),
                     ("unit", "p", 0, 0), ("unit", "p", "0")):
            self.assertFalse(self.is_right(("split", "u", (("split", "v", (("circuit", (0, 1)), unit)),))), unit)
        self.assertFalse(self.is_right(TREE, machine=Machine(p=2)))
        self.assertTrue(self.is_right(TREE, machine=Machine(p=1, q=1)))
        self.assertFalse(self.is_right(TREE, interval=3))

    def test_operations_without_units_can_be_split(self):
        loop = Loop(*MEET.operations, Operation("x"))
        whole = ("split", "x", (TREE[2][0], TREE[2][0]))
        self.assertTrue(self.is_right(("split", "u", (whole,)), loop=loop))
        inner = ("split", "u", (TREE[2][0], ("split", "v", (("unit", "p", 1), ("circuit", (0, 1))))))
        self.assertTrue(self.is_right(("split", "x", (inner,)), loop=loop))
        self.assertTrue(self.is_right(("split", "x", (inner, inner)), loop=loop))
        self.assertFalse(self.is_right(("split", "x", (TREE,)), loop=loop))

    def test_wrong_forms(self):
        for wrong in [("split", "w", TREE[2]), ("split", None, TREE[2]), ("split", ["u"], TREE[2]),
                      ("split", "u", list(TREE[2])),
                      ("split", "u", TREE[2][0]), ("split", "u"), ("split", "u", TREE[2], 0), list(TREE),
                      ("Split", "u", TREE[2]),
                      ("split", "u", (None,)), ("split", "u", (("split", "v", (None, None)),)), ("split", "u", None),
                      ("split", "u", {}), ("circuit", [0, 1]), ("circuit",), ("circuit", (0, 1), 0), ("circuit", ()),
                      ("tree", TREE), ("plan", {"u": 0, "v": 1}), ("starts", {"u": 0, "v": 1}), *all_kinds()]:
            self.assertFalse(self.is_right(wrong), wrong)
        for wrong in [TREE, ("tree",), ("tree", TREE, 0), ["tree", TREE], ("plan", TREE), ("tree", ("tree", TREE)),
                      ("Tree", TREE), (None, TREE), *all_kinds()]:
            self.assertIs(is_interval_paper(MEET, P, 2, wrong), False, wrong)

    def test_each_change_of_a_leaf_is_seen(self):
        loop = Loop(Operation("a", uses=(("p", 0), ("p", 1))), Operation("b", uses=(("p", 0), ("q", 1))),
                    Operation("c", uses=(("p", 0), ("q", 0))))
        kind, tree = interval_paper(loop, Machine(p=1, q=1), 3)
        self.assertEqual(kind, "tree")
        self.assertTrue(self.is_right(tree, 3, loop, Machine(p=1, q=1)))
        changed = 0
        for other in changed_leaves(tree):
            changed += 1
            self.assertFalse(self.is_right(other, 3, loop, Machine(p=1, q=1)), other)
        self.assertGreater(changed, 5)


def changed_leaves(tree):
    """All trees in which one leaf tells another slot, or is left out."""
    if tree[0] == "unit":
        yield ("unit", tree[1], (tree[2] + 1) % 3)
        yield ("circuit", ())
        return
    for at, below in enumerate(tree[2]):
        if len(tree[2]) > 1:
            yield ("split", tree[1], tree[2][:at] + tree[2][at + 1:])
        for other in changed_leaves(below):
            yield ("split", tree[1], tree[2][:at] + (other,) + tree[2][at + 1:])


class Papers(unittest.TestCase):
    def test_trees_that_split_in_any_order(self):
        seen = 0
        for loop in LOOPS:
            machine = machine_for(loop)
            for interval in (2, 3):
                if len(loop.asking) < 2 or has_plan(loop, machine, interval):
                    continue
                for order in permutations(loop.asking):
                    tree = slow_tree(loop, machine, interval, order, {})
                    self.assertIs(is_interval_paper(loop, machine, interval, ("tree", tree)), True)
                    self.assertIs(is_interval_paper(loop, machine, 4 * len(loop), ("tree", tree)), False)
                    if tree[0] == "split":
                        seen += 1
                        first = (*tree[:2], tree[2][:1])
                        self.assertIs(is_interval_paper(loop, machine, interval, ("tree", first)), True)
        self.assertGreater(seen, 50)

    def test_against_all_slots_tried(self):
        draw, kinds = Random(7), {"plan": 0, "tree": 0}
        for loop in LOOPS[::2]:
            machine = machine_for(loop, draw.choice((1, 1, 2)))
            for interval in (1, 2, 3, 4):
                kind, found = interval_paper(loop, machine, interval)
                kinds[kind] += 1
                self.assertEqual(kind == "plan", slow_has_plan(loop, machine, interval))
                self.assertIs(has_plan(loop, machine, interval), kind == "plan")
                self.assertIs(is_interval_paper(loop, machine, interval, (kind, found)), True)
                if kind == "plan":
                    self.assertTrue(is_plan(loop, machine, interval, found))
                    self.assertEqual(list(found), list(loop.names))
        self.assertGreater(min(kinds.values()), 100)

    def test_at_four_times_the_operations_there_is_a_plan(self):
        for loop in LOOPS:
            for interval in range(4 * len(loop), 33, 5):
                self.assertTrue(has_plan(loop, machine_for(loop), interval))

    def test_an_interval_with_a_plan_and_the_next_one_without(self):
        twice = Loop(Operation("a", uses=(("p", 0), ("p", 3))))
        self.assertEqual([has_plan(twice, P, interval) for interval in (1, 2, 3, 4)], [False, True, False, True])
        self.assertEqual(interval_paper(twice, P, 3)[0], "tree")
        for units, wanted in (([0], True), ([0, 1, 2], True), ([0, 0, 0], False), ([0, 1], False)):
            tree = ("split", "a", tuple(("unit", "p", at) for at in units))
            self.assertIs(is_interval_paper(twice, P, 3, ("tree", tree)), wanted)

    def test_plans(self):
        for starts in ({"u": 0, "v": 1}, {"v": 11, "u": 10}):
            self.assertIs(is_interval_paper(MEET, P, 3, ("plan", starts)), True)
            self.assertIs(is_interval_paper(MEET, P, 2, ("plan", starts)), False)
        for wrong in [{"u": 0, "v": 2}, {"u": 0}, {"u": False, "v": 1}, None, (), *all_kinds()]:
            self.assertIs(is_interval_paper(MEET, P, 3, ("plan", wrong)), False)

    def test_without_units(self):
        self.assertEqual(interval_paper(ROUND, Machine(), 3)[0], "plan")
        kind, tree = interval_paper(ROUND, Machine(), 2)
        self.assertEqual((kind, tree[0], sorted(tree[1])), ("tree", "circuit", [0, 1, 2]))

    def test_four_and_five_operations_that_use_units(self):
        self.assertEqual([has_plan(FOUR, P, interval) for interval in (3, 4)], [False, True])
        self.assertTrue(is_interval_paper(FOUR, P, 3, interval_paper(FOUR, P, 3)))
        for call in (interval_paper, has_plan):
            kind, error = error_of(call, FIVE, P, 5)
            self.assertIs(kind, TooMany)
            self.assertEqual(error.limit, 4)
        self.assertIs(is_interval_paper(FIVE, P, 5, ("plan", {name: at for at, name in enumerate("abcde")})), True)
        self.assertIs(is_interval_paper(FIVE, P, 4, ("plan", {name: at for at, name in enumerate("abcde")})), False)
        self.assertIs(is_interval_paper(FIVE, P, 1, ("tree", ("split", "a", (("split", "e", (("unit", "p", 0),)),)))),
                      True)

    def test_a_wide_loop(self):
        orders = tuple(("a", "b", delay, distance) for delay in (1, 2) for distance in range(4))
        loop = unrolled(Loop(Operation("a", uses=(("p", 0),)), Operation("b", uses=(("p", 1),)), orders=orders), 2)
        self.assertGreater(len(loop.orders), 8)
        for interval in (1, 3, 4, 9):
            paper = interval_paper(loop, P, interval)
            self.assertTrue(is_interval_paper(loop, P, interval, paper))
            self.assertEqual(paper[0], "plan" if interval >= 4 else "tree")

    def test_errors(self):
        calls = (interval_paper, has_plan, lambda *told: is_interval_paper(*told, None))
        for call in calls:
            for wrong in all_kinds():
                if not isinstance(wrong, Loop):
                    self.assertIs(error_of(call, wrong, P, 2)[0], InvalidLoop, wrong)
                if not isinstance(wrong, Machine):
                    self.assertIs(error_of(call, MEET, wrong, 2)[0], InvalidMachine, wrong)
            for wrong in NO_INTERVALS:
                self.assertIs(error_of(call, MEET, P, wrong)[0], InvalidNumber, wrong)
            self.assertIs(error_of(call, SUM, P, 2)[0], InvalidArgument)
            self.assertIs(error_of(call, MEET, BOTH, 2)[0], InvalidArgument)

    def test_which_comes_first(self):
        for call in (interval_paper, has_plan, lambda *told: is_interval_paper(*told, None)):
            self.assertIs(error_of(call, None, None, 0)[0], InvalidLoop)
            self.assertIs(error_of(call, FIVE, None, 0)[0], InvalidMachine)
            self.assertIs(error_of(call, FIVE, BOTH, 0)[0], InvalidNumber)
            self.assertIs(error_of(call, FIVE, BOTH, 1)[0], InvalidArgument)


if __name__ == "__main__":
    unittest.main()
