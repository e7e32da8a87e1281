"""overrounds.loop.loops: operations."""

import unittest

from overrounds.errors import InvalidArgument, InvalidOperation
from overrounds.loop.loops import Operation

from samples import MEET, SUM, all_kinds

FULL = Operation("sum", ticks=2, reads=(("sum", 1), ("item", 0)), uses=(("add", 0), ("add", 1)))


class Bounds(unittest.TestCase):
    def assert_invalid(self, *arguments, **keywords):
        with self.assertRaises(InvalidOperation, msg=(arguments, keywords)):
            Operation(*arguments, **keywords)

    def test_defaults(self):
        one = Operation("a")
        self.assertEqual((one.name, one.ticks, one.reads, one.uses), ("a", 1, (), ()))
        self.assertEqual((one.read_names, one.units), ((), ()))

    def test_properties(self):
        self.assertEqual((FULL.name, FULL.ticks), ("sum", 2))
        self.assertEqual(FULL.reads, (("sum", 1), ("item", 0)))
        self.assertEqual(FULL.uses, (("add", 0), ("add", 1)))
        self.assertEqual((FULL.read_names, FULL.units), (("item", "sum"), ("add",)))
        other = Operation("a", reads=(("c", 0), ("b", 3), ("c", 0)), uses=(("p", 3), ("q", 0), ("r", 1)))
        self.assertEqual((other.read_names, other.units), (("b", "c"), ("p", "q", "r")))

    def test_names(self):
        for name in ("a", "abcdefgh"):
            self.assertEqual(Operation(name).name, name)
        for wrong in all_kinds():
            if wrong != "a":
                self.assert_invalid(wrong)

    def test_ticks(self):
        for ticks in (1, 2, 3, 4):
            self.assertEqual(Operation("a", ticks=ticks).ticks, ticks)
        for wrong in all_kinds() + [0, 5, -1, "1", (1,)]:
            self.assert_invalid("a", ticks=wrong)

    def test_reads(self):
        for reads in ((), (("a", 0),), (("a", 3), ("a", 3), ("a", 3)), (("z", 1), ("b", 2), ("abcdefgh", 0))):
            self.assertEqual(Operation("a", reads=reads).reads, reads)
        for wrong in all_kinds():
            if wrong not in ((), (("a", 1),)):
                self.assert_invalid("a", reads=wrong)
        pair = ("a", 1)
        for wrong in ((("a", 4),), (("a", -1),), (("a", True),), (("a", None),), (("a", "1"),), (("", 1),), (("A", 1),),
                      (("abcdefghi", 1),), ((None, 1),), ((1, "a"),), (["a", 1],), [pair], {pair: 1}, {"a": 1}, pair,
                      (("a",),), (("a", 1, 1),), ((("a",), 1),), (pair, pair, pair, pair), (pair, None), ("ab",),
                      (pair, pair, ("a", 4)), (("a", 10 ** 39),), (("a", (1,)),), (({}, 1),), (pair, ())):
            self.assert_invalid("a", reads=wrong)

    def test_uses(self):
        four = (("p", 0), ("p", 3), ("q", 0), ("r", 2))
        for uses in ((), (("p", 0),), (("p", 3),), (("p", 1), ("p", 2)), (("p", 3), ("q", 0)), four):
            self.assertEqual(Operation("a", uses=uses).uses, uses)
        for wrong in all_kinds():
            if wrong not in ((), (("a", 1),)):
                self.assert_invalid("a", uses=wrong)
        for wrong in ((("p", 4),), (("p", -1),), (("p", False),), (("", 0),), (("P", 0),), (("p", 0), ("p", 0)),
                      (("p", 1), ("p", 0)), (("q", 0), ("p", 1)), (*four, ("s", 0)), (["p", 0],), list(four),
                      (("p", 0), ("q", 1), ("p", 2)), (("p", 0), None), (("p", 0), ("q", "1")), (("p", 0, 0),),
                      (("p", 0), (None, 0)), {("p", 0): 1}, (("p", 0), ("p", 10 ** 12))):
            self.assert_invalid("a", uses=wrong)

    def test_several_wrong_arguments(self):
        self.assert_invalid(None, ticks=0, reads=None, uses=None)
        self.assert_invalid("a", ticks=1, reads=(("a", 4),), uses=(("p", 4),))

    def test_by_position_and_by_keyword(self):
        with self.assertRaises(TypeError):
            Operation("a", 1)
        with self.assertRaises(TypeError):
            Operation()

    def test_it_reads_itself_in_any_distance(self):
        self.assertEqual(Operation("a", reads=(("a", 0),)).read_names, ("a",))


class Changed(unittest.TestCase):
    def test_renamed(self):
        names = {"sum": "a", "item": "b", "add": "c", "other": "d"}
        one = FULL.renamed(names)
        self.assertEqual((one.name, one.ticks, one.reads), ("a", 2, (("a", 1), ("b", 0))))
        self.assertEqual(one.uses, FULL.uses)
        self.assertEqual(FULL.renamed({"item": "sum", "sum": "item"}).reads, (("item", 1), ("sum", 0)))
        self.assertEqual(FULL.renamed({"item": "x", "sum": "x"}).reads, (("x", 1), ("x", 0)))
        self.assertEqual(FULL.renamed({"item": "item", "sum": "sum"}), FULL)
        self.assertEqual(Operation("a").renamed({"a": "b"}), Operation("b"))

    def test_renamed_wrong(self):
        good = {"sum": "a", "item": "b"}
        for wrong in all_kinds() + [{"sum": "a"}, {"item": "a"}, {**good, 1: "a"}, {**good, "A": "a"},
                                    {**good, "z": "Z"}, {**good, "z": None}, {**good, None: None},
                                    {**good, ("a",): "a"}, {**good, True: "x"},
                                    {"sum": "a", "item": ""}, {"sum": "a", "item": 1}, {"sum": ["a"], "item": "b"},
                                    {"sum": {}, "item": "b"}, (("sum", "a"), ("item", "b")), ["sum", "item"]]:
            with self.assertRaises(InvalidArgument, msg=wrong):
                FULL.renamed(wrong)
        with self.assertRaises(InvalidArgument):
            Operation("a").renamed({})

    def test_with_ticks(self):
        for ticks in (1, 2, 3, 4):
            one = FULL.with_ticks(ticks)
            self.assertEqual((one.name, one.ticks, one.reads, one.uses), ("sum", ticks, FULL.reads, FULL.uses))
        for wrong in all_kinds() + [0, 5]:
            with self.assertRaises(InvalidOperation, msg=wrong):
                FULL.with_ticks(wrong)
        self.assertEqual(FULL.ticks, 2)


class Compared(unittest.TestCase):
    def test_equal(self):
        like = Operation("sum", ticks=2, reads=(("sum", 1), ("item", 0)), uses=(("add", 0), ("add", 1)))
        self.assertIs(FULL == like, True)
        self.assertIs(FULL != like, False)
        for other in (like.with_ticks(1), like.renamed({"sum": "sun", "item": "item"}), Operation("sum", ticks=2),
                      Operation("sum", ticks=2, reads=(("item", 0), ("sum", 1)), uses=FULL.uses),
                      Operation("sum", ticks=2, reads=FULL.reads),
                      Operation("sum", ticks=2, reads=FULL.reads, uses=(("add", 0),))):
            self.assertIs(FULL == other, False)
            self.assertIs(FULL != other, True)

    def test_every_value_can_be_compared(self):
        for value in [None, True, 1, "sum", ("sum",), [FULL], {"sum": FULL}, SUM, MEET, 10 ** 39, b"sum"]:
            self.assertIs(FULL == value, False)
            self.assertIs(value == FULL, False)
            self.assertIs(FULL != value, True)

    def test_text(self):
        self.assertEqual(str(FULL), "sum 2 reads sum 1, item 0 uses add 0, add 1")
        self.assertEqual(str(Operation("u")), "u 1")
        self.assertEqual(str(Operation("u", ticks=4, reads=(("v", 3), ("v", 3)))), "u 4 reads v 3, v 3")
        self.assertEqual(str(Operation("u", uses=(("p", 0),))), "u 1 uses p 0")

    def test_it_cannot_be_iterated(self):
        with self.assertRaises(TypeError):
            iter(FULL)
        with self.assertRaises(TypeError):
            "sum" in FULL


if __name__ == "__main__":
    unittest.main()
