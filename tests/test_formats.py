"""overrounds.text.formats: writing and reading."""

import unittest
from random import Random

from overrounds.errors import (InvalidArgument, InvalidLoop, InvalidMachine, InvalidNumber, InvalidOperation,
                               InvalidSpans, ParseError)
from overrounds.file.spans import Spans
from overrounds.file.turning import least_turning, turning_paper
from overrounds.loop.loops import Loop, Operation
from overrounds.plan.machines import Machine
from overrounds.rings.ratios import unrolled
from overrounds.text.formats import (read_bases, read_loop, read_machine, read_plan, read_spans, read_tree, write_bases,
                                     write_loop, write_machine, write_plan, write_spans, write_tree)
from overrounds.units.trees import interval_paper, is_interval_paper

from samples import (FOUR, MEET, NO_INTERVALS, NO_STARTS, P, SUM, TREE, all_kinds, error_of, machine_for, some_loops,
                     some_spans)

ORDERED = Loop(*SUM.operations, Operation("reads", reads=(("uses", 1),), uses=(("reads", 3),)), Operation("uses"),
               orders=(("item", "sum", 0, 3), ("reads", "uses", 4, 0), ("sum", "item", 2, 1)))
LOOP_TEXT = """op item 1 uses mem 0
op reads 1 reads uses 1 uses reads 3
op sum 2 reads sum 1, item 0 uses add 0, add 1
op uses 1
order item sum 0 3
order reads uses 4 0
order sum item 2 1"""
TWO = Spans(2, {"a": (0, 2), "b": (1, 3)})
WRONG_WORDS = ("", "A", "a1", "abcdefghi", "+1", "01", "-0", "1.0", "1e3", "1_0", "0x1", "1234567890123",
               "-1234567890123",
               "--1", "-", "1-", "00", "-01", "None", "True", "_", "1,", ",", ",1", "a,")
PRINTED = "".join(chr(code) for code in range(32, 127)) + "\n"


def line_of(call, *told):
    """The line of the ParseError that a call raises; what else it raises or returns in a list."""
    kind, value = error_of(call, *told)
    return value.line if kind is ParseError else [kind]


def readers():
    """A reading function, its text and what it gives, for each kind of text."""
    return [(read_loop, LOOP_TEXT, ORDERED),
            (read_machine, "unit add 1\nunit mem 3", Machine(add=1, mem=3)),
            (read_spans, "interval 2\nspan a 0 2\nspan b 1 3", TWO),
            (lambda text: read_plan(MEET, text), "interval 3\nstart u 0\nstart v 1", (3, {"u": 0, "v": 1})),
            (lambda text: read_tree(MEET, 2, text), "split u 1\nsplit v 2\ncircuit 0 1\nunit p 0", TREE),
            (lambda text: read_bases(TWO, text), "registers 3\nbase a 0\nbase b 2", (3, {"a": 0, "b": 2}))]


class There(unittest.TestCase):
    def test_the_texts(self):
        self.assertEqual((write_loop(ORDERED), write_loop(Loop(Operation("a")))), (LOOP_TEXT, "op a 1"))
        self.assertEqual(write_machine(Machine(mem=3, add=1)), "unit add 1\nunit mem 3")
        self.assertEqual((write_machine(Machine()), read_machine("unit -")), ("unit -", Machine()))
        self.assertEqual(write_spans(Spans(2, {"b": (-1, 3), "a": (0, 2)})), "interval 2\nspan a 0 2\nspan b -1 3")
        self.assertEqual(write_plan(MEET, 3, {"v": 1, "u": 0}), "interval 3\nstart u 0\nstart v 1")
        self.assertEqual(write_bases(TWO, 3, {"b": 2, "a": 0}), "registers 3\nbase a 0\nbase b 2")
        for read, text, value in readers():
            self.assertEqual(read(text), value)

    def test_loops(self):
        for loop in some_loops(400):
            text = write_loop(loop)
            self.assertEqual(read_loop(text), loop)
            self.assertEqual(write_loop(read_loop(text)), text)
            self.assertEqual(text.split("\n"), [f"op {one}" for one in loop.operations]
                             + [" ".join(["order", *map(str, order)]) for order in loop.orders])

    def test_machines(self):
        draw = Random(1)
        for _ in range(60):
            machine = Machine.of({name: draw.randint(1, 3) for name in draw.sample(["p", "unit", "self", "zzzzzzzz"],
                                                                                   draw.randint(0, 3))})
            self.assertEqual(read_machine(write_machine(machine)), machine)

    def test_spans_and_bases(self):
        for spans in [*some_spans(7000, 100), Spans(32, {"interval": (-10 ** 12 + 1, -10 ** 12 + 257)})]:
            self.assertEqual(read_spans(write_spans(spans)), spans)
            registers = least_turning(spans) + 1
            bases = turning_paper(spans, registers)[1]
            self.assertEqual(read_bases(spans, write_bases(spans, registers, bases)), (registers, bases))

    def test_plans(self):
        draw = Random(3)
        for loop in some_loops(100):
            interval, starts = draw.randint(1, 32), {name: draw.randint(0, 10 ** 6) for name in loop}
            self.assertEqual(read_plan(loop, write_plan(loop, interval, starts)), (interval, starts))
        self.assertEqual(write_plan(MEET, 1, {"u": 10 ** 6, "v": 0}), "interval 1\nstart u 1000000\nstart v 0")

    def test_trees(self):
        seen = 0
        for loop in [one for one in some_loops(500) if len(one.asking) <= 3 and len(one) <= 5]:
            machine = machine_for(loop)
            for interval in (1, 2, 3, 4):
                kind, tree = interval_paper(loop, machine, interval)
                if kind == "tree":
                    text = write_tree(loop, interval, tree)
                    self.assertEqual(read_tree(loop, interval, text), tree)
                    self.assertTrue(is_interval_paper(loop, machine, interval, (kind, read_tree(loop, interval, text))))
                    seen += "\n" in text
        self.assertGreater(seen, 40)

    def test_returned_dicts_ascend(self):
        self.assertEqual(list(read_plan(MEET, "interval 3\nstart v 1\nstart u 0")[1]), ["u", "v"])
        self.assertEqual(list(read_bases(TWO, "registers 3\nbase b 2\nbase a 0")[1]), ["a", "b"])

    def test_lines_in_other_orders(self):
        draw = Random(7)
        for read, text, value in readers():
            lines = text.split("\n")
            first = 1 if lines[0].split(" ")[0] in ("interval", "registers") else 0
            if lines[0].startswith("split"):
                continue
            for _ in range(20):
                rest = lines[first:]
                draw.shuffle(rest)
                self.assertEqual(read("\n".join(lines[:first] + rest)), value)
                if first:
                    at = draw.randint(1, len(rest))
                    moved = rest[:at] + lines[:1] + rest[at:]
                    self.assertEqual(line_of(read, "\n".join(moved)), 0)

    def test_more_orders(self):
        wide = unrolled(Loop(Operation("a"), Operation("b"), orders=tuple(("a", "b", delay, 1) for delay in range(5))),
                        4)
        self.assertGreater(len(wide.orders), 8)
        self.assertEqual(write_loop(wide).count("\n"), 8 + len(wide.orders) - 1)
        self.assertIs(error_of(read_loop, write_loop(wide))[0], InvalidLoop)


class Form(unittest.TestCase):
    def test_no_strings(self):
        for read, _, _ in readers():
            for wrong in [one for one in all_kinds() if not isinstance(one, str)] + [b"op a 1", 1]:
                self.assertIsNone(line_of(read, wrong), wrong)

    def test_empty_texts_and_line_ends(self):
        for read, text, _ in readers():
            many = text.count("\n") + 1
            self.assertEqual((line_of(read, ""), line_of(read, "\n"), line_of(read, " ")), (0, 0, 0))
            self.assertEqual((line_of(read, text + "\n"), line_of(read, "\n" + text)), (many, 0))
            self.assertEqual(line_of(read, text.replace("\n", "\n\n", 1)), 1)

    def test_each_line_spoilt_at_each_place(self):
        for read, text, _ in readers():
            lines = text.split("\n")
            for at, line in enumerate(lines):
                words = line.split(" ")
                spoilt = [" " + line, line + " ", line + "\t", line + " x", line + ",", line.upper(),
                          line.replace(" ", "  ", 1),
                          line.replace(" ", "\t", 1), words[0], " ".join(words[:2]), "x" + line, line + line,
                          line.replace(" ", ", ", 1)]
                spoilt += [" ".join([*words[:place], word, *words[place + 1:]]) for place in range(1, len(words))
                           for word in WRONG_WORDS
                           if not (words[0] == "op" and word.endswith(",") and "," in words[place])]
                for wrong in spoilt:
                    if wrong in ("circuit 0", "circuit 1") or wrong == line:
                        continue
                    self.assertEqual(line_of(read, "\n".join([*lines[:at], wrong, *lines[at + 1:]])), at, wrong)

    def test_the_first_wrong_line_counts(self):
        for read, text, _ in readers():
            lines = text.split("\n")
            for at in range(len(lines)):
                self.assertEqual(line_of(read, "\n".join([*lines[:at], "?", *lines[at + 1:], "?"])), at)
            self.assertEqual(line_of(read, text + "\n?\n?"), len(lines))

    def test_repeated_lines(self):
        for read, text, wanted in ((read_loop, "op a 1\nop b 1\nop a 2", 2), (read_loop, "op a 1\nop a 9", 1),
                                   (read_loop, "order a b 1 1\nop a 1\norder a b 1 1\nop a 1", 2),
                                   (read_machine, "unit p 1\nunit p 1", 1), (read_machine, "unit p 1\nunit p 9", 1),
                                   (read_spans, "interval 1\nspan a 0 1\nspan a 1 2", 2),
                                   (read_spans, "interval 99\nspan a 0 1\nspan a 1 2\n?", 2)):
            self.assertEqual(line_of(read, text), wanted)
        self.assertEqual(line_of(read_plan, MEET, "interval 99\nstart x 0\nstart x 1"), 2)
        self.assertEqual(line_of(read_bases, TWO, "registers 99\nbase x 0\nbase b 1\nbase x 1"), 3)
        # Two orders that differ in a number are two, and so are an order and an operation of one name.
        loop = read_loop("order a a 1 1\norder a a 1 2\nop a 1")
        self.assertEqual(loop.orders, (("a", "a", 1, 1), ("a", "a", 1, 2)))
        # In a tree a line can come again.
        self.assertEqual(read_tree(MEET, 2, "split u 2\nunit p 0\nunit p 0")[2], (("unit", "p", 0),) * 2)

    def test_units(self):
        for text, wanted in (("unit -\nunit p 1", 0), ("unit p 1\nunit -", 1), ("unit -\nunit -", 0), ("unit - ", 0),
                             (" unit -", 0), ("unit -\n", 0), ("unit -1", 0), ("unit", 0), ("unit - 1", 0),
                             ("unit p", 0), ("unit p -", 0)):
            self.assertEqual(line_of(read_machine, text), wanted)
        self.assertEqual(line_of(read_tree, MEET, 2, "unit -"), 0)

    def test_words_as_names(self):
        for text in ("op reads 1", "op uses 1 uses uses 0", "op op 1 reads op 1",
                     "op reads 1 reads reads 1 uses reads 0",
                     "op order 1 reads order 3, order 3, order 2 uses order 0, uses 0"):
            loop = read_loop(text)
            self.assertEqual(write_loop(loop), text)
        self.assertIs(error_of(read_loop, "op a 9 reads uses 7 uses reads 1")[0], InvalidOperation)
        self.assertEqual(read_loop("order order order 1 2\nop order 1").orders, (("order", "order", 1, 2),))
        for text in ("op a 1 reads", "op a 1 uses", "op a 1 reads uses p 0", "op a 1 uses p 0 reads a 1",
                     "op a 1 uses p",
                     "op a 1 reads a 1 reads a 1", "op a 1 uses p 0 uses q 0", "op a 1 reads a 1,",
                     "op a 1 reads a 1 , a 2",
                     "op a 1 reads a 1 a 2", "op a 1 reads a 1,a 2", "op a 1, reads a 1", "op a 1 reads a, 1",
                     "op a 1 reads a 1, uses p 0, reads", "op a 1 reads , a 1", "op a 1 uses p 0,, q 0", "op a 1 2",
                     "op a",
                     "op", "op 1 a", "op a 1 read a 1", "a 1", "op a 1\treads a 1"):
            self.assertEqual(line_of(read_loop, text), 0, text)
        self.assertIs(error_of(read_loop, "op a 1 reads a 1, uses 0")[0], InvalidLoop)

    def test_numbers(self):
        self.assertEqual(read_spans("interval 1\nspan a -999999999999 -999999999998")["a"],
                         (-10 ** 12 + 1, -10 ** 12 + 2))
        self.assertEqual(line_of(read_spans, "interval 1\nspan a 1000000000000 1000000000001"), 1)
        self.assertIs(error_of(read_spans, "interval 999999999999\nspan a 0 1")[0], InvalidNumber)
        self.assertEqual(line_of(read_spans, "interval 1000000000000\nspan a 0 1"), 0)
        self.assertEqual(line_of(read_spans, "interval -0\nspan a 0 1"), 0)
        self.assertEqual(line_of(read_loop, "op a " + "9" * 290), 0)


class Whole(unittest.TestCase):
    def test_loops_that_there_are_not(self):
        for text in ("op a 0", "op a 5", "op a -1", "op a 1 reads a 4", "op a 1 uses p 4", "op a 1 uses q 0, p 0",
                     "op a 1 uses p 0, p 0", "op a 1 reads a 1, a 1, a 1, a 1", "op a 1 reads b -1",
                     "op a 1 uses p 0, p 1, p 2, p 3, q 0", "op a 5\nop b 1 reads x 1"):
            self.assertIs(error_of(read_loop, text)[0], InvalidOperation, text)
        for text in ("order a b 1 1", "op a 1 reads b 1", "op a 1 reads a 0", "op a 1\norder a b 1 1",
                     "op a 1\norder a a 1 0",
                     "op a 1\norder a a 5 1", "op a 1\norder a a 1 4", "op a 1\norder a a -1 1",
                     "\n".join(f"op {name} 1" for name in "abcdefghi"),
                     "\n".join(["op a 1"] + [f"order a a {delay} {distance}" for delay in range(3)
                                             for distance in (1, 2, 3)])):
            self.assertIs(error_of(read_loop, text)[0], InvalidLoop, text)
        eight = [f"order a a {delay} {distance}" for delay in range(4) for distance in (1, 2)]
        self.assertEqual(len(read_loop("\n".join([*reversed(eight), "op a 1"])).orders), 8)

    def test_machines_that_there_are_not(self):
        for text in ("unit p 0", "unit p 4", "unit p -1", "unit a 1\nunit b 1\nunit c 1\nunit d 1"):
            self.assertIs(error_of(read_machine, text)[0], InvalidMachine, text)

    def test_spans_that_there_are_not(self):
        for text, value in (("interval 0\nspan a 0 1", 0), ("interval 33", 33), ("interval -1\nspan a 5 1", -1)):
            kind, error = error_of(read_spans, text)
            self.assertIs(kind, InvalidNumber)
            self.assertEqual(error.value, value)
        for text in ("interval 1", "interval 1\nspan a 0 0", "interval 1\nspan a 0 9", "interval 1\nspan a 1 0",
                     "\n".join(["interval 1", *[f"span {name} 0 1" for name in "abcdefghi"]])):
            self.assertIs(error_of(read_spans, text)[0], InvalidSpans, text)

    def test_plans_that_there_are_not(self):
        kind, error = error_of(read_plan, MEET, "interval 33\nstart x 0")
        self.assertEqual((kind, error.value), (InvalidNumber, 33))
        for text in ("interval 3", "interval 3\nstart u 0", "interval 3\nstart u 0\nstart x 0",
                     "interval 3\nstart u 0\nstart v -1",
                     "interval 3\nstart u 0\nstart v 1000001", "interval 3\nstart u 0\nstart v 1\nstart w 1"):
            self.assertIs(error_of(read_plan, MEET, text)[0], InvalidArgument, text)
        self.assertEqual(read_plan(MEET, "interval 1\nstart u 0\nstart v 0"), (1, {"u": 0, "v": 0}))

    def test_bases_that_there_are_not(self):
        for value in (0, 73, -1):
            kind, error = error_of(read_bases, TWO, f"registers {value}\nbase x 0")
            self.assertEqual((kind, error.value), (InvalidNumber, value))
        for text in ("registers 3", "registers 3\nbase a 0", "registers 3\nbase a 0\nbase b 1",
                     "registers 3\nbase a 0\nbase b 3",
                     "registers 3\nbase a 0\nbase b 2\nbase c 0", "registers 2\nbase a 0\nbase b 1"):
            self.assertIs(error_of(read_bases, TWO, text)[0], InvalidArgument, text)


class Trees(unittest.TestCase):
    def test_any_form(self):
        for tree, text in ((("unit", "p", 1), "unit p 1"), (("circuit", (1, 0, 1, 0)), "circuit 1 0 1 0"),
                           (("split", "v", (("unit", "p", 0),)), "split v 1\nunit p 0"),
                           (("split", "v", (("split", "u", (("unit", "p", 0), ("circuit", (0, 1)))), ("unit", "p", 1))),
                            "split v 2\nsplit u 2\nunit p 0\ncircuit 0 1\nunit p 1")):
            self.assertEqual((write_tree(MEET, 2, tree), read_tree(MEET, 2, text)), (text, tree))

    def test_texts_that_end_too_early_or_go_on(self):
        for text, wanted in (("split u 1", 1), ("split u 2\nunit p 0", 2), ("split u 1\nsplit v 1", 2),
                             ("split u 999999999999", 1), ("split x 2\nunit p 9", 2), ("unit p 0\nunit p 0", 1),
                             ("circuit 0 1\nsplit u 1", 1), ("split u 1\nunit p 0\nunit p 0\nunit p 0", 2),
                             ("split u 0\nunit p 0", 1), ("split u -1\nunit p 0", 1),
                             ("split u 2\nsplit v 0\nunit p 0\nunit p 1", 3)):
            self.assertEqual(line_of(read_tree, MEET, 2, text), wanted, text)

    def test_the_form_of_all_lines_comes_first(self):
        for text, wanted in (("unit p 0\nunit p 0\n?", 2), ("split u 3\nunit p 0\nop a 1", 2), ("unit x 9\n", 1),
                             ("circuit", 0), ("circuit ", 0), ("circuit a", 0), ("split u", 0), ("split u 1 1", 0),
                             ("unit p 0\nstart u 0", 1)):
            self.assertEqual(line_of(read_tree, MEET, 2, text), wanted, text)

    def test_lines_that_tell_what_there_is_not(self):
        for text in ("unit q 0", "unit p 2", "unit p -1", "circuit 0", "circuit 0 0", "circuit 0 2", "circuit -1 0",
                     "split u 0",
                     "split u -1", "split x 1\nunit p 0", "split u 3\nunit p 0\nunit p 0\nunit p 0",
                     "split u 1\nsplit u 1\nunit p 0", "split u 1\nsplit v 1\nsplit u 1\nunit p 0",
                     "circuit " + " ".join(["0 1"] * 33), "\n".join(["split u 1"] * 90 + ["unit p 0"])):
            self.assertIs(error_of(read_tree, MEET, 2, text)[0], InvalidArgument, text)
        self.assertIsNone(error_of(read_tree, MEET, 2, "circuit " + " ".join(["0 1"] * 32))[0])
        # Two ways can split one name each.
        text = "split u 2\nsplit v 1\nunit p 0\nsplit v 1\nunit p 1"
        self.assertEqual(write_tree(MEET, 2, read_tree(MEET, 2, text)), text)

    def test_values_that_are_not_of_the_form(self):
        leaf = ("unit", "p", 0)
        for wrong in [("unit", "q", 0), ("unit", "p", 2), ("unit", "p", -1), ("unit", "p", True), ("unit", "p", False),
                      ("unit", "p"), ("unit", "p", 0, 0), ["unit", "p", 0], ("unit", ["p"], 0), ("unit", None, 0),
                      ("circuit", ()), ("circuit", (0,)), ("circuit", [0, 1]), ("circuit", (False, True)),
                      ("circuit", (0, 1), 0), ("circuit", (0, 1) * 33), ("circuit", 0), ("split", "u", ()),
                      ("split", "u", (leaf, leaf, leaf)), ("split", "u", [leaf]), ("split", "x", (leaf,)),
                      ("split", "u", leaf), ("split", "u", (("split", "u", (leaf,)),)), ("split", "u", (None,)),
                      ("split", None, (leaf,)), ("split", "u"), ("Split", "u", (leaf,)), (leaf,), (), None, "unit p 0",
                      ("split", "u", (leaf, ("split", "v", (("split", "u", (leaf,)),)))), *all_kinds()]:
            self.assertIs(error_of(write_tree, MEET, 2, wrong)[0], InvalidArgument, wrong)
        for right in [leaf, ("unit", "p", 1), ("circuit", (1, 0)), ("split", "v", (leaf, leaf)),
                      ("split", "u", (leaf,)), TREE,
                      ("split", "u", (("split", "v", (leaf,)), ("split", "v", (leaf,))))]:
            self.assertIsNone(error_of(write_tree, MEET, 2, right)[0], right)

    def test_many_lines(self):
        kind, tree = interval_paper(FOUR, P, 3)
        self.assertEqual(kind, "tree")
        text = write_tree(FOUR, 3, tree)
        self.assertEqual(read_tree(FOUR, 3, text), tree)
        leaves = tuple(("unit", "p", slot) for slot in range(32))
        for name in "abc":
            leaves = tuple(("split", name, leaves) for _ in range(32 if name != "c" else 1))
        self.assertEqual(read_tree(FOUR, 32, write_tree(FOUR, 32, leaves[0])), leaves[0])


class Errors(unittest.TestCase):
    def test_writing(self):
        for wrong in all_kinds():
            if not isinstance(wrong, Loop):
                for call in (write_loop, lambda one: write_plan(one, 0, None), lambda one: write_tree(one, 0, None),
                             lambda one: read_plan(one, None), lambda one: read_tree(one, 0, None)):
                    self.assertIs(error_of(call, wrong)[0], InvalidLoop, wrong)
            if not isinstance(wrong, Machine):
                self.assertIs(error_of(write_machine, wrong)[0], InvalidMachine, wrong)
            for call in (write_spans, lambda one: write_bases(one, 0, None), lambda one: read_bases(one, None)):
                self.assertIs(error_of(call, wrong)[0], InvalidSpans, wrong)
            self.assertIs(error_of(write_plan, MEET, 3, wrong)[0], InvalidArgument, wrong)
            self.assertIs(error_of(write_bases, TWO, 3, wrong)[0], InvalidArgument, wrong)
        for wrong in NO_INTERVALS:
            for call in (lambda: write_plan(SUM, wrong, None), lambda: write_tree(SUM, wrong, None),
                         lambda: read_tree(SUM, wrong, None)):
                kind, error = error_of(call)
                self.assertIs(kind, InvalidNumber)
                self.assertIs(error.value, wrong)
        for wrong in NO_STARTS:
            self.assertIs(error_of(write_plan, SUM, 2, wrong)[0], InvalidArgument, wrong)
        for wrong in (0, 73, True, None, "3"):
            kind, error = error_of(write_bases, TWO, wrong, None)
            self.assertIs(kind, InvalidNumber)
            self.assertIs(error.value, wrong)
        self.assertIs(error_of(write_bases, TWO, 3, {"a": 0, "b": 1})[0], InvalidArgument)

    def test_drawn_texts(self):
        draw = Random(17)
        for read, text, value in readers():
            for _ in range(300):
                signs = list(text)
                for _ in range(draw.choice((1, 1, 2, 5))):
                    at = draw.randrange(len(signs))
                    signs[at:at + draw.choice((0, 1))] = draw.choice(("", draw.choice(PRINTED),
                                                                      draw.choice("ab01 \n,-")))
                kind, told = error_of(read, "".join(signs))
                self.assertIn(kind, (None, ParseError, InvalidOperation, InvalidLoop, InvalidMachine, InvalidSpans,
                                     InvalidArgument, InvalidNumber))
                if kind is None:
                    self.assertIs(type(told), type(value))


if __name__ == "__main__":
    unittest.main()
