"""overrounds.loop.loops: how loops are made, and what they tell."""

import unittest

from overrounds.errors import InvalidArgument, InvalidLoop, UnknownName
from overrounds.loop import loops
from overrounds.loop.loops import Loop, Operation, wide_loop

from samples import MEET, SUM, all_kinds, has_round_order, some_parts

A, B, C = Operation("a"), Operation("b"), Operation("c")
EIGHT = tuple(Operation(letter) for letter in "abcdefgh")


class Made(unittest.TestCase):
    def assert_invalid(self, *operations, **keywords):
        with self.assertRaises(InvalidLoop, msg=(operations, keywords)):
            Loop(*operations, **keywords)
        with self.assertRaises(InvalidLoop, msg=(operations, keywords)):
            Loop.of(operations, **keywords)

    def assert_orders_invalid(self, orders):
        self.assert_invalid(A, B, C, orders=orders)

    def test_constants(self):
        self.assertEqual((loops.MAX_OPERATIONS, loops.MAX_DISTANCE, loops.MAX_ROUNDS), (8, 3, 64))

    def test_how_many(self):
        self.assertEqual(Loop(A).names, ("a",))
        self.assertEqual(Loop(*EIGHT).names, tuple("abcdefgh"))
        self.assertEqual(Loop.of(EIGHT), Loop(*EIGHT))
        self.assert_invalid()
        self.assert_invalid(*EIGHT, Operation("i"))

    def test_of(self):
        orders = (("a", "b", 1, 0),)
        self.assertEqual(Loop.of((A, B), orders=orders), Loop(A, B, orders=orders))
        for wrong in all_kinds() + [[A, B], {"a": A}, A, Loop(A, B), "a"]:
            with self.assertRaises(InvalidLoop, msg=wrong):
                Loop.of(wrong)

    def test_what_is_no_operation(self):
        for wrong in all_kinds():
            if not isinstance(wrong, Operation):
                self.assert_invalid(wrong)
                self.assert_invalid(A, wrong)
        self.assert_invalid((A, B))
        self.assert_invalid([A])

    def test_a_name_twice(self):
        self.assert_invalid(A, A)
        self.assert_invalid(A, B, Operation("a", ticks=2))

    def test_what_is_read_is_there(self):
        self.assert_invalid(Operation("a", reads=(("b", 1),)))
        self.assert_invalid(A, Operation("b", reads=(("a", 1), ("c", 1))))
        self.assertEqual(len(Loop(Operation("a", reads=(("b", 1),)), B)), 2)

    def test_orders(self):
        for orders in ((), (("a", "b", 0, 0),), (("a", "a", 0, 1),), (("c", "a", 4, 3),),
                       (("a", "b", 0, 0), ("a", "b", 0, 1)),
                       tuple(("a", "b", 4, k) for k in range(4)) + tuple(("b", "c", 0, k) for k in range(4))):
            self.assertEqual(Loop(A, B, C, orders=orders).orders, orders)

    def test_wrong_orders(self):
        for wrong in all_kinds():
            if wrong != ():
                self.assert_orders_invalid(wrong)
                self.assert_orders_invalid((wrong,))
        good = ("a", "b", 1, 1)
        for wrong in (("d", "b", 1, 1), ("a", "d", 1, 1), ("a", "b", -1, 1), ("a", "b", 5, 1), ("a", "b", 1, -1),
                      ("a", "b", 1, 4), ("a", "b", True, 1), ("a", "b", 1, True), ("a", "b", None, 1),
                      ("a", "b", 1, "1"),
                      ("a", "b", 1), ("a", "b", 1, 1, 1), ["a", "b", 1, 1], (None, "b", 1, 1), ("a", ["b"], 1, 1),
                      (A, B, 1, 1), (("a",), "b", 1, 1), ({}, "b", 1, 1), ("a", "b", 10 ** 39, 1), "abcd", {}):
            self.assert_orders_invalid((wrong,))
            self.assert_orders_invalid((good, wrong))
            self.assert_orders_invalid((wrong, good))
        self.assert_orders_invalid([good])
        self.assert_orders_invalid({good: 1})
        self.assert_orders_invalid(good)

    def test_orders_out_of_order(self):
        self.assert_orders_invalid((("a", "b", 1, 1), ("a", "b", 1, 1)))
        self.assert_orders_invalid((("a", "b", 1, 1), ("a", "b", 1, 0)))
        self.assert_orders_invalid((("a", "b", 1, 1), ("a", "b", 0, 2)))
        self.assert_orders_invalid((("b", "a", 1, 1), ("a", "b", 1, 1)))
        self.assert_orders_invalid((("a", "a", 1, 1), ("b", "a", 1, 1), ("a", "b", 1, 1)))

    def test_nine_orders(self):
        nine = tuple(("a", "b", delay, distance) for delay in range(3) for distance in range(3))
        self.assertEqual(Loop(A, B, orders=nine[:8]).orders, nine[:8])
        self.assert_invalid(A, B, orders=nine)

    def test_rings_of_distance_0(self):
        self.assert_invalid(Operation("a", reads=(("a", 0),)))
        self.assert_invalid(Operation("a", reads=(("b", 0),)), Operation("b", reads=(("a", 0),)))
        self.assert_invalid(Operation("a", reads=(("c", 0),)), Operation("b", reads=(("a", 0),)),
                            Operation("c", reads=(("b", 0),)))
        self.assert_invalid(A, orders=(("a", "a", 0, 0),))
        self.assert_invalid(A, orders=(("a", "a", 4, 0),))
        self.assert_invalid(A, B, orders=(("a", "b", 0, 0), ("b", "a", 0, 0)))
        self.assert_invalid(A, Operation("b", reads=(("a", 0),)), orders=(("b", "a", 0, 0),))
        self.assert_invalid(A, Operation("b", reads=(("a", 0),)), C, orders=(("b", "c", 0, 0), ("c", "a", 3, 0)))
        self.assert_invalid(Operation("a", reads=(("a", 1), ("a", 0))))

    def test_rings_of_other_distances(self):
        Loop(Operation("a", reads=(("a", 1),)))
        Loop(A, orders=(("a", "a", 0, 1),))
        Loop(A, B, C, orders=(("a", "b", 0, 0), ("a", "c", 0, 0), ("b", "c", 0, 0), ("c", "a", 0, 1)))
        Loop(A, Operation("b", reads=(("a", 0),)), orders=(("b", "a", 4, 3),))

    def test_all_loops_but_those_with_such_rings(self):
        kinds = {True: 0, False: 0}
        for seed in range(400):
            operations, orders = some_parts(seed)
            names = [one.name for one in operations]
            arcs = orders + tuple((name, one.name, 1, back) for one in operations for name, back in one.reads)
            right = has_round_order(names, arcs)
            kinds[right] += 1
            if right:
                self.assertEqual(set(Loop(*operations, orders=orders).names), set(names))
            else:
                self.assert_invalid(*operations, orders=orders)
        self.assertGreater(min(kinds.values()), 50)

    def test_several_errors(self):
        self.assert_invalid(A, A, None, Operation("z", reads=(("y", 0),)), orders=None)
        self.assert_invalid(Operation("a", reads=(("z", 1), ("a", 0))), orders=(("a", "a", 9, 0),))


class Told(unittest.TestCase):
    def test_example(self):
        self.assertEqual(
            [SUM.arcs, SUM.asking, list(SUM.rings()), SUM.ring_sum((1,)), str(SUM["sum"]), str(SUM)],
            [(("item", "sum", 1, 0), ("sum", "sum", 2, 1)), ("item", "sum"), [(1,)], (2, 1),
             "sum 2 reads sum 1, item 0 uses add 0, add 1", "loop of 2 operations, 2 arcs"])

    def test_meet(self):
        self.assertEqual(MEET.arcs, (("u", "v", 1, 0), ("v", "u", 1, 1)))
        self.assertEqual((MEET.names, MEET.asking, MEET.units), (("u", "v"), ("u", "v"), ("p",)))
        self.assertEqual((list(MEET.rings()), MEET.ring_sum((0, 1)), MEET.ring_sum((1, 0))), ([(0, 1)], (2, 1), (2, 1)))
        self.assertEqual(str(MEET), "loop of 2 operations, 2 arcs")

    def test_properties(self):
        first = Operation("c", ticks=3, reads=(("a", 2), ("c", 1), ("a", 2)), uses=(("q", 0),))
        second = Operation("a", ticks=2, reads=(("c", 0),))
        third = Operation("b", uses=(("p", 0), ("q", 3)))
        orders = (("a", "c", 2, 2), ("b", "a", 4, 0))
        loop = Loop(first, second, third, orders=orders)
        self.assertEqual(loop.operations, (second, third, first))
        self.assertEqual(loop.orders, orders)
        self.assertEqual(loop.names, ("a", "b", "c"))
        self.assertEqual(loop.arcs, (("a", "c", 2, 2), ("b", "a", 4, 0), ("c", "a", 3, 0), ("c", "c", 3, 1)))
        self.assertEqual(loop.readings, (("a", "c", 2), ("c", "a", 0), ("c", "c", 1)))
        self.assertEqual((loop.units, loop.asking), (("p", "q"), ("b", "c")))
        self.assertEqual(str(loop), "loop of 3 operations, 4 arcs")

    def test_arcs_and_readings_each_once(self):
        reader = Operation("b", reads=(("a", 0), ("a", 1), ("a", 0)))
        loop = Loop(A, reader, orders=(("a", "b", 1, 0), ("a", "b", 2, 0)))
        self.assertEqual(loop.arcs, (("a", "b", 1, 0), ("a", "b", 1, 1), ("a", "b", 2, 0)))
        self.assertEqual(loop.readings, (("a", "b", 0), ("a", "b", 1)))

    def test_nothing_there(self):
        loop = Loop(A)
        self.assertEqual((loop.orders, loop.arcs, loop.readings, loop.units, loop.asking), ((), (), (), (), ()))
        self.assertEqual(str(loop), "loop of 1 operations, 0 arcs")

    def test_arcs_and_readings_of_many_loops(self):
        for seed in range(200):
            operations, orders = some_parts(seed)
            ticks = {one.name: one.ticks for one in operations}
            reads = [(name, one.name, back) for one in operations for name, back in one.reads]
            arcs = {(name, reader, ticks[name], back) for name, reader, back in reads} | set(orders)
            if not has_round_order(list(ticks), arcs):
                continue
            loop = Loop(*operations, orders=orders)
            self.assertEqual(loop.arcs, tuple(sorted(arcs)))
            self.assertEqual(loop.readings, tuple(sorted(set(reads))))
            self.assertEqual(loop.units, tuple(sorted({unit for one in operations for unit, _ in one.uses})))
            self.assertEqual(loop.asking, tuple(sorted(one.name for one in operations if one.uses)))

    def test_items(self):
        self.assertEqual(SUM["item"], Operation("item", uses=(("mem", 0),)))
        self.assertEqual(SUM["sum"].ticks, 2)
        for wrong in all_kinds() + ["su", "items", "mem", 0, 1]:
            with self.assertRaises(UnknownName, msg=wrong) as caught:
                SUM[wrong]
            self.assertIs(caught.exception.wanted, wrong)

    def test_contains(self):
        self.assertIs("sum" in SUM, True)
        self.assertIs("item" in SUM, True)
        for value in all_kinds() + ["su", "mem", 0, SUM["sum"]]:
            self.assertIs(value in SUM, False)

    def test_length_and_iteration(self):
        self.assertEqual([len(SUM), len(Loop(A)), len(Loop(*EIGHT))], [2, 1, 8])
        self.assertEqual(list(SUM), ["item", "sum"])
        self.assertEqual(list(Loop(C, A, B)), ["a", "b", "c"])
        self.assertEqual([list(SUM), list(SUM)], [["item", "sum"]] * 2)

    def test_equal(self):
        orders = (("a", "b", 1, 0), ("b", "c", 2, 1))
        loop = Loop(A, B, C, orders=orders)
        for other in (Loop(C, B, A, orders=orders), Loop.of((B, A, C), orders=orders)):
            self.assertIs(loop == other, True)
            self.assertIs(loop != other, False)
        for other in (Loop(A, B, C), Loop(A, B, C, orders=orders[:1]), Loop(A, B, C.with_ticks(2), orders=orders),
                      Loop(A, B, C, Operation("d"), orders=orders), SUM):
            self.assertIs(loop == other, False)
            self.assertIs(loop != other, True)

    def test_an_order_that_is_an_arc_anyway_makes_another_loop(self):
        reader = Operation("b", reads=(("a", 0),))
        plain, ordered = Loop(A, reader), Loop(A, reader, orders=(("a", "b", 1, 0),))
        self.assertEqual(plain.arcs, ordered.arcs)
        self.assertFalse(plain == ordered)

    def test_every_value_can_be_compared(self):
        for value in [None, True, 2, "item", ("item", "sum"), ["item", "sum"], SUM["sum"], SUM.operations, {},
                      10 ** 39]:
            self.assertIs(SUM == value, False)
            self.assertIs(value == SUM, False)
            self.assertIs(SUM != value, True)


class Renamed(unittest.TestCase):
    def test_exchanged_names(self):
        loop = SUM.renamed({"item": "sum", "sum": "item"})
        self.assertEqual(loop["sum"], Operation("sum", uses=(("mem", 0),)))
        self.assertEqual(loop["item"].reads, (("item", 1), ("sum", 0)))
        self.assertEqual(loop.arcs, (("item", "item", 2, 1), ("sum", "item", 1, 0)))
        self.assertEqual(loop.renamed({"item": "sum", "sum": "item"}), SUM)

    def test_orders_are_renamed(self):
        loop = Loop(A, B, C, orders=(("a", "b", 1, 0), ("a", "c", 4, 1), ("b", "c", 2, 1)))
        other = loop.renamed({"b": "a", "a": "c", "c": "z"})
        self.assertEqual(other.orders, (("a", "z", 2, 1), ("c", "a", 1, 0), ("c", "z", 4, 1)))
        self.assertEqual((other.names, other.arcs), (("a", "c", "z"), other.orders))
        self.assertEqual(loop.renamed({"c": "c", "b": "b", "a": "a"}), loop)

    def test_wrong_names(self):
        good = {"item": "a", "sum": "b"}
        for wrong in all_kinds() + [{"item": "a"}, {**good, "c": "d"}, {"item": "a", "sun": "b"},
                                    {"item": "a", "sum": "a"},
                                    {"item": "a", "sum": ""}, {"item": "a", "sum": "B"}, {"item": None, "sum": "b"},
                                    {"item": ["a"], "sum": "b"}, {"item": {}, "sum": "b"}, {"item": 1, "sum": "b"},
                                    {**good, None: "c"}, {"item": "a", ("sum",): "b"}, {1: "a", 2: "b"},
                                    (("item", "a"), ("sum", "b")), ["item", "sum"], ("item", "sum"), SUM]:
            with self.assertRaises(InvalidArgument, msg=wrong):
                SUM.renamed(wrong)

    def test_a_loop_with_more_than_eight_orders(self):
        orders = tuple(("a", "b", delay, distance) for delay in range(3) for distance in range(4))
        wide = wide_loop((A, B), orders)
        self.assertEqual((wide.orders, wide.arcs, str(wide)), (orders, orders, "loop of 2 operations, 12 arcs"))
        self.assertIs(wide == Loop(A, B, orders=orders[:8]), False)
        other = wide.renamed({"a": "b", "b": "a"})
        self.assertEqual(other.orders, tuple(("b", "a", *order[2:]) for order in orders))
        self.assertEqual(other.renamed({"a": "b", "b": "a"}), wide)
        self.assertEqual(wide.played(1, lambda name, turn, values: values), {"a": ((),), "b": ((),)})
        self.assertEqual((list(wide.rings()), len(wide), list(wide)), ([], 2, ["a", "b"]))


if __name__ == "__main__":
    unittest.main()
