"""What is passed is not changed, and what is returned gives access to nothing."""

import unittest
from copy import deepcopy

from overrounds.errors import InvalidArgument, InvalidLoop, InvalidOperation
from overrounds.loop.loops import Loop, Operation

from samples import SUM

PROPERTIES = {
    Operation: ("name", "ticks", "reads", "uses", "read_names", "units"),
    Loop: ("operations", "orders", "names", "arcs", "readings", "units", "asking"),
}


class State(unittest.TestCase):
    def test_properties_cannot_be_assigned(self):
        for one in (SUM, SUM["sum"]):
            for name in PROPERTIES[type(one)]:
                with self.assertRaises(AttributeError, msg=name):
                    setattr(one, name, ())
        with self.assertRaises(TypeError):
            SUM["sum"] = Operation("sum")
        with self.assertRaises(TypeError):
            del SUM["sum"]

    def test_properties_are_tuples_throughout(self):
        for one in (SUM, SUM["sum"]):
            for name in PROPERTIES[type(one)]:
                value = getattr(one, name)
                if name not in ("name", "ticks"):
                    self.assertIs(type(value), tuple)
                    self.assertTrue(all(type(item) in (tuple, str, Operation) for item in value))
                self.assertEqual(getattr(one, name), value)

    def test_each_is_defined_in_its_class(self):
        for name in (*PROPERTIES[Operation], "renamed", "with_ticks", "__eq__", "__str__"):
            self.assertIn(name, vars(Operation))
        for name in (*PROPERTIES[Loop], "of", "__getitem__", "__contains__", "__len__", "__iter__", "__eq__", "__str__",
                     "rings", "ring_sum", "renamed", "played"):
            self.assertIn(name, vars(Loop))

    def test_names_can_be_changed_afterwards(self):
        names = {"item": "a", "sum": "b"}
        before = deepcopy(names)
        loop, one = SUM.renamed(names), SUM["sum"].renamed(names)
        self.assertEqual((names, list(names)), (before, list(before)))
        names["sum"] = "c"
        names.clear()
        self.assertEqual((loop.names, one.name, one.reads), (("a", "b"), "b", (("b", 1), ("a", 0))))

    def test_lists_that_are_refused_stay(self):
        reads, orders, operations, names = [["a", 1]], [("item", "sum", 0, 0)], [SUM["item"]], {"sum": ["x"]}
        before = deepcopy((reads, orders, names))
        with self.assertRaises(InvalidOperation):
            Operation("a", reads=reads)
        with self.assertRaises(InvalidLoop):
            Loop(*SUM.operations, orders=orders)
        with self.assertRaises(InvalidLoop):
            Loop.of(operations)
        with self.assertRaises(InvalidArgument):
            SUM.renamed(names)
        self.assertEqual((reads, orders, names), before)
        self.assertEqual(operations, [SUM["item"]])

    def test_operations_in_a_list_can_be_changed_afterwards(self):
        operations = list(SUM.operations)
        loop = Loop(*operations)
        operations.reverse()
        operations.pop()
        self.assertEqual((loop, len(operations)), (SUM, 1))

    def test_what_played_returns_can_be_changed(self):
        def meaning(name, turn, values):
            return turn
        values = SUM.played(2, meaning)
        values["item"] = None
        values.clear()
        self.assertEqual(SUM.played(2, meaning), {"item": (0, 1), "sum": (0, 1)})

    def test_a_call_within_a_call(self):
        def inner(name, turn, values):
            return turn
        loop = Loop(Operation("a", reads=(("a", 1),)))
        values = loop.played(2, lambda name, turn, read: loop.played(1, inner))
        self.assertEqual(values, {"a": ({"a": (0,)}, {"a": (0,)})})

    def test_calls_leave_the_loop_as_it_is(self):
        loop = Loop(*SUM.operations, orders=(("item", "sum", 3, 1),))
        told = [str(loop)] + [getattr(loop, name) for name in PROPERTIES[Loop]]
        list(loop.rings())
        loop.renamed({"item": "sum", "sum": "item"})
        loop.played(3, lambda *told: None)
        loop["sum"].renamed({"item": "x", "sum": "x"})
        loop["sum"].with_ticks(4)
        for call in (lambda: loop.renamed({}), lambda: loop.ring_sum(()), lambda: loop["sum"].with_ticks(5)):
            with self.assertRaises((InvalidArgument, InvalidOperation)):
                call()
        self.assertEqual(told, [str(loop)] + [getattr(loop, name) for name in PROPERTIES[Loop]])


if __name__ == "__main__":
    unittest.main()
