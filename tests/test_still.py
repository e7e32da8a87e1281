"""overrounds.file.still: files that stand still, for several copies of a round."""

import unittest
from inspect import isgenerator
from itertools import product
from math import lcm

from overrounds.errors import InvalidArgument, InvalidNumber, InvalidSpans, TooMany
from overrounds.file import still
from overrounds.file.spans import Spans
from overrounds.file.still import (chart, each_places, enough_copies, fitting_copies, is_places, is_still_paper,
                                   lasting_places, least_still, still_paper)

from samples import all_kinds, error_of, slow_alive, some_spans

FIVE = Spans(5, {"a": (0, 2), "b": (1, 3), "c": (2, 4), "d": (3, 5), "e": (4, 6)})
ONE = Spans(1, {"a": (0, 2), "b": (0, 1)})
TWO = Spans(2, {"a": (0, 2), "b": (1, 3)})
EIGHT = Spans(4, {name: (0, 1) for name in "abcdefgh"})
TREE = (("a", 0), ((("b", 0), (None, (("c", 0), ((("d", 0), (None, (("e", 0), (None, None)))), None)))),))
SPANS = some_spans(5000, 160, 3)
NO_NUMBERS = (0, -1, True, False, None, "1", (1,), [1], {}, 10 ** 12, 10 ** 39, FIVE)


def pairs_of(spans, copies):
    return [(name, copy) for name in spans.names for copy in range(copies)]


def slow_is_places(spans, copies, registers, places):
    """Whether values that are alive in one tick stand in different registers, tick by tick."""
    for tick in range(copies * spans.interval):
        row = [places[name, turn % copies] for name, turn in slow_alive(spans.rows, spans.interval, tick)]
        if len(row) != len(set(row)):
            return False
    return True


def all_places(spans, copies, registers):
    """All places, by trying all integers for all pairs."""
    pairs = pairs_of(spans, copies)
    dicts = [dict(zip(pairs, row)) for row in product(range(registers), repeat=len(pairs))]
    return [places for places in dicts if slow_is_places(spans, copies, registers, places)]


def is_first_of_its_kind(places):
    """Whether each pair stands where a lesser one does, or in the least register in which none does."""
    row = [places[pair] for pair in sorted(places)]
    return all(place <= max([-1, *row[:at]]) + 1 for at, place in enumerate(row))


def long_names(spans, copies):
    return [name for name in spans if spans[name][1] - spans[name][0] > copies * spans.interval]


CASES = [(spans, copies, registers) for spans in SPANS + [FIVE] for copies in (1, 2, 3) for registers in (1, 2, 3, 4)
         if registers ** (len(spans) * copies) <= 1000 and len(spans) * copies <= 12]


class Places(unittest.TestCase):
    def test_constants(self):
        self.assertEqual((still.MAX_COPIES, still.MAX_PAIRS), (6, 12))

    def test_against_each_tick(self):
        seen = {True: 0, False: 0}
        for spans, copies, registers in CASES[::2]:
            pairs = pairs_of(spans, copies)
            for row in product(range(registers), repeat=len(pairs)):
                places = dict(zip(pairs, row))
                wanted = slow_is_places(spans, copies, registers, places)
                self.assertIs(is_places(spans, copies, registers, places), wanted, (spans.rows, copies, places))
                seen[wanted] += 1
        self.assertGreater(min(seen.values()), 300)

    def test_spans_as_long_as_the_circle(self):
        for copies in range(1, 7):
            for more, wanted in ((-1, True), (0, True), (1, False)):
                spans = Spans(2, {"a": (-7, 2 * copies - 7 + more)})
                places = {("a", copy): copy for copy in range(copies)}
                self.assertIs(is_places(spans, copies, 64, places), wanted)
                self.assertIs(is_still_paper(spans, copies, 64, ("places", places)), wanted)
                self.assertIs(is_still_paper(spans, copies, 64, ("long", "a")), not wanted)
                self.assertEqual(still_paper(spans, copies, 64)[0], "places" if wanted else "long")
                # The pairs all meet.
                self.assertEqual(least_still(spans, copies), copies if wanted else None)

    def test_what_is_none(self):
        good = {("a", 0): 0, ("a", 1): 1, ("b", 0): 2, ("b", 1): 2}
        self.assertIs(is_places(ONE, 2, 3, good), True)
        self.assertIs(is_places(ONE, 2, 3, {pair: good[pair] for pair in reversed(list(good))}), True)
        lacking = {pair: good[pair] for pair in list(good)[1:]}
        for wrong in [lacking, {**good, ("c", 0): 0}, {**good, ("a", 2): 0}, {**good, ("a", 0): 1},
                      {**good, ("a", 0): 2},
                      {**good, ("a", 0): -1}, {**good, ("a", 0): 3}, {**good, ("a", 0): False},
                      {**good, ("a", 0): None}, {**good, ("a", 0): "0"}, {**lacking, ("a", False): 0},
                      {**lacking, ("a", -1): 0}, {**lacking, "a": 0}, {**lacking, ("a",): 0}, {**lacking, None: 0},
                      {**lacking, ("a", 0, 0): 0}, {**lacking, (0, "a"): 0}, list(good.items()), (0, 1, 2, 2), {}, ONE,
                      *all_kinds()]:
            self.assertIs(is_places(ONE, 2, 3, wrong), False, wrong)
            self.assertIs(is_still_paper(ONE, 2, 3, ("places", wrong)), False, wrong)
            self.assertIs(error_of(chart, ONE, 2, 3, wrong)[0], InvalidArgument, wrong)
        self.assertIs(is_places(ONE, 2, 3, {**lacking, ("a", True): 1, ("a", 0): 0}), True)
        self.assertIs(is_places(ONE, 2, 64, {**good, ("b", 0): 63}), True)
        self.assertIs(is_places(ONE, 2, 64, {**good, ("b", 0): 64}), False)

    def test_true_is_no_copy(self):
        places = {("a", 0): 0, ("a", True): 1, ("b", 0): 2, ("b", 1): 2}
        self.assertIs(is_places(ONE, 2, 3, places), False)


class Papers(unittest.TestCase):
    def test_against_all_places(self):
        forms = set()
        for spans, copies, registers in CASES:
            there = bool(all_places(spans, copies, registers))
            kind, found = paper = still_paper(spans, copies, registers)
            self.assertEqual(kind == "places", there)
            self.assertIs(is_still_paper(spans, copies, registers, paper), True)
            if kind == "places":
                self.assertTrue(slow_is_places(spans, copies, registers, found))
                self.assertEqual(list(found), pairs_of(spans, copies))
            if kind == "tree":
                self.assertFalse(long_names(spans, copies) or spans.most > registers)
            forms.add(kind)
        self.assertEqual(forms, {"places", "long", "alive", "tree"})

    def test_trees(self):
        seen = 0
        for spans in some_spans(5400, 300, 7):
            for copies in range(1, 7):
                if len(spans) * copies > 12 or long_names(spans, copies):
                    continue
                least = least_still(spans, copies)
                self.assertEqual(still_paper(spans, copies, least)[0], "places")
                for registers in range(1, least):
                    paper = still_paper(spans, copies, registers)
                    self.assertEqual(paper[0], "tree" if registers >= spans.most else "alive")
                    self.assertIs(is_still_paper(spans, copies, registers, paper), True)
                    for other in (registers - 1, registers + 1):
                        if other and paper[0] == "tree":
                            self.assertIs(is_still_paper(spans, copies, other, paper), False)
                    seen += paper[0] == "tree"
        self.assertGreater(seen, 20)

    def test_the_told_tree(self):
        self.assertIs(is_still_paper(FIVE, 1, 2, ("tree", TREE)), True)
        for copies, registers in ((2, 2), (1, 1), (1, 3), (6, 2)):
            self.assertIs(is_still_paper(FIVE, copies, registers, ("tree", TREE)), False)
        e, f = (("e", 0), (None, None)), (("d", 0), (None, (("e", 0), (None, None))))
        c = (("c", 0), (f, None))
        for wrong in [None, (), (("a", 0),), (("a", 0), ()), (("a", 0), (None,)), (("a", 0), [c]),
                      (("a", 0), (c, None)),
                      (("a", 0), (c,)), (["a", 0], TREE[1]), (("a", False), TREE[1]), (("a", 1), TREE[1]),
                      ("a", TREE[1]),
                      (("f", 0), TREE[1]), (("a", 0), ((("b", 0), (None, None)),)), (("a", 0), ((("b", 0), (None,)),)),
                      (("a", 0), ((("b", 0), (c, c)),)), (("a", 0), ((("a", 0), (None, c)),)),
                      (("a", 0), ((("b", 0), (None, (("b", 0), (None, None)))),)), (("a", 0), ((("b", 0), (None, f)),)),
                      (("a", 0), ((("b", 0), (None, e)),)), (("a", 0), TREE[1], None), TREE[1], *all_kinds()]:
            self.assertIs(is_still_paper(FIVE, 1, 2, ("tree", wrong)), False, wrong)
        self.assertIs(is_still_paper(FIVE, 1, 2, ("tree", (("a", 0), ((("b", 0), (None, c)),)))), True)

    def test_trees_in_any_order(self):
        # a and c do not meet, so both registers are open to c, and the tree has a branch for each.
        order = (("a", 0), ((("c", 0), ((("b", 0), (None, (("d", 0), (None, (("e", 0), (None, None)))))),
                                        (("b", 0), (None, None)))),))
        self.assertIs(is_still_paper(FIVE, 1, 2, ("tree", order)), True)
        left_out = (("a", 0), ((("c", 0), (order[1][0][1][0],)),))
        self.assertIs(is_still_paper(FIVE, 1, 2, ("tree", left_out)), False)
        nothing = (("a", 0), ((("c", 0), (None, order[1][0][1][1])),))
        self.assertIs(is_still_paper(FIVE, 1, 2, ("tree", nothing)), False)

    def test_trees_where_a_tick_or_a_long_span_would_do(self):
        self.assertEqual(still_paper(TWO, 1, 1)[0], "alive")
        self.assertIs(is_still_paper(TWO, 1, 1, ("tree", (("a", 0), ((("b", 0), (None,)),)))), True)
        self.assertIs(is_still_paper(TWO, 1, 1, ("tree", (("b", 0), ((("a", 0), (None,)),)))), True)
        self.assertIs(is_still_paper(TWO, 1, 1, ("tree", (("b", 0), (None,)))), False)
        long = Spans(1, {"a": (0, 2), "b": (0, 1)})
        self.assertEqual(still_paper(long, 1, 1)[0], "long")
        self.assertIs(is_still_paper(long, 1, 1, ("tree", (("a", 0), ((("b", 0), (None,)),)))), True)
        self.assertIs(is_still_paper(long, 1, 1, ("alive", 0)), True)
        self.assertIs(is_still_paper(long, 1, 2, ("tree", (("a", 0), ((("b", 0), (None, None)),)))), False)

    def test_trees_of_many_pairs(self):
        # All pairs of a copy meet, and the first six registers are too few.
        spans = Spans(2, {name: (0, 2) for name in "abcdefg"})
        tree = (("g", 0), (None,) * 6)
        for at, name in reversed(list(enumerate("abcdef"))):
            tree = ((name, 0), (None,) * at + (tree,))
        self.assertIs(is_still_paper(spans, 6, 6, ("tree", tree)), True)
        self.assertEqual(error_of(still_paper, spans, 6, 7)[0], TooMany)
        self.assertEqual(still_paper(spans, 6, 6)[0], "alive")

    def test_the_other_forms(self):
        self.assertEqual([tick for tick in range(-5, 11) if is_still_paper(FIVE, 1, 1, ("alive", tick))],
                         [0, 1, 2, 3, 4])
        self.assertEqual([tick for tick in range(-5, 11) if is_still_paper(FIVE, 1, 2, ("alive", tick))], [])
        one = Spans(3, {"a": (0, 2), "b": (1, 3)})
        self.assertEqual([tick for tick in range(-5, 11) if is_still_paper(one, 2, 1, ("alive", tick))], [1])
        for wrong in (True, False, None, "1", (1,), 10 ** 39, 4, *all_kinds()):
            self.assertIs(is_still_paper(one, 2, 1, ("alive", wrong)), False, wrong)
            self.assertIs(is_still_paper(one, 2, 1, wrong), False, wrong)
        for wrong in ("b", "c", None, ("a",), ["a"], 0, *all_kinds()):
            self.assertIs(is_still_paper(ONE, 1, 9, ("long", wrong)), False, wrong)
        self.assertIs(is_still_paper(ONE, 1, 9, ("long", "a")), True)
        self.assertIs(is_still_paper(ONE, 2, 9, ("long", "a")), False)
        for wrong in [("long", "a", 0), ["long", "a"], ("Long", "a"), ("long",), "a", ("places", "a"), ("tree", "a")]:
            self.assertIs(is_still_paper(ONE, 1, 9, wrong), False, wrong)

    def test_twelve_pairs_and_thirteen(self):
        twelve, more = Spans(9, {name: (0, 1) for name in "abcdef"}), Spans(9, {name: (0, 1) for name in "abcdefg"})
        self.assertEqual(still_paper(twelve, 2, 6)[0], "places")
        self.assertEqual(least_still(twelve, 2), 6)
        for call in (lambda: still_paper(more, 2, 7), lambda: least_still(more, 2), lambda: each_places(more, 2, 7)):
            kind, error = error_of(call)
            self.assertEqual((kind, error.limit), (TooMany, 12))
        self.assertEqual(still_paper(more, 2, 6)[0], "alive")
        long = Spans(1, {**{name: (0, 1) for name in "abcdef"}, "g": (0, 3)})
        self.assertEqual((still_paper(long, 2, 64), least_still(long, 2)), (("long", "g"), None))
        self.assertEqual(list(each_places(long, 2, 64)), [])
        single = Spans(1, {"a": (0, 1)})
        self.assertEqual([least_still(single, copies) for copies in range(1, 7)], [1] * 6)
        self.assertIs(is_still_paper(more, 2, 7, ("places", {(name, copy): at for at, name in enumerate("abcdefg")
                                                             for copy in (0, 1)})), True)


class Errors(unittest.TestCase):
    def test_errors(self):
        nothing = {}
        of_three = (still_paper, each_places, lambda *told: is_places(*told, nothing),
                    lambda *told: is_still_paper(*told, nothing), lambda *told: chart(*told, nothing))
        of_two = (least_still, lambda spans, copies: still_paper(spans, copies, 0), lasting_places)
        for wrong in all_kinds() + [FIVE.rows]:
            for call in of_three:
                self.assertIs(error_of(call, wrong, 0, 0)[0], InvalidSpans, wrong)
            for call in (*of_two, fitting_copies):
                self.assertIs(error_of(call, wrong, 0)[0], InvalidSpans, wrong)
            self.assertIs(error_of(enough_copies, wrong)[0], InvalidSpans, wrong)
        for wrong in (7, *NO_NUMBERS):
            for call in (*(lambda *told, one=one: one(*told, 0) for one in of_three), least_still):
                kind, error = error_of(call, FIVE, wrong)
                self.assertIs(kind, InvalidNumber, wrong)
                self.assertIs(error.value, wrong)
        for wrong in (65, *NO_NUMBERS):
            for call in (*(lambda spans, value, one=one: one(spans, 1, value) for one in of_three), fitting_copies,
                         lasting_places):
                kind, error = error_of(call, FIVE, wrong)
                self.assertIs(kind, InvalidNumber, wrong)
                self.assertIs(error.value, wrong)
        self.assertEqual((still_paper(TWO, 6, 64)[0], still_paper(TWO, 1, 64)[0]), ("places", "places"))
        self.assertEqual((fitting_copies(FIVE, 64), fitting_copies(FIVE, 1)), ((1, 2), ()))


class Numbers(unittest.TestCase):
    def test_least_still(self):
        for spans, copies, _ in CASES:
            least = least_still(spans, copies)
            if long_names(spans, copies):
                self.assertIsNone(least)
                continue
            self.assertGreaterEqual(least, spans.most)
            if least ** (len(spans) * copies) <= 1000:
                self.assertTrue(all_places(spans, copies, least))
                self.assertFalse(least > 1 and all_places(spans, copies, least - 1))

    def test_fitting_copies(self):
        self.assertEqual([fitting_copies(FIVE, registers) for registers in (1, 2, 3)], [(), (2,), (1, 2)])
        self.assertEqual((fitting_copies(ONE, 2), fitting_copies(EIGHT, 8)), ((), (1,)))
        for spans in SPANS[:60]:
            for registers in (1, 2, 4):
                wanted = tuple(copies for copies in range(1, 7) if len(spans) * copies <= 12
                               and least_still(spans, copies) is not None and least_still(spans, copies) <= registers)
                self.assertEqual(fitting_copies(spans, registers), wanted)

    def test_multiples(self):
        for spans in SPANS[:80]:
            for registers in (spans.most, spans.most + 1):
                fitting = fitting_copies(spans, registers)
                for copies in fitting:
                    for more in range(2 * copies, 7, copies):
                        self.assertTrue(more in fitting or more * len(spans) > 12)

    def test_more_copies_can_need_more_registers(self):
        self.assertEqual([least_still(FIVE, copies) for copies in (1, 2)], [3, 2])
        # Round the circle each of fifteen pairs meets the next one, so two registers would have to take turns.
        pairs = [(name, copy) for copy in range(3) for name in "abcde"]
        tree = (pairs[-1], (None, None))
        for at in reversed(range(1, 14)):
            tree = (pairs[at], (None, tree) if at % 2 else (tree, None))
        self.assertIs(is_still_paper(FIVE, 3, 2, ("tree", (pairs[0], (tree,)))), True)
        places = {pair: at % 2 for at, pair in enumerate(pairs)}
        self.assertIs(is_places(FIVE, 3, 2, places), False)
        self.assertIs(is_places(FIVE, 3, 3, {**places, pairs[-1]: 2}), True)


class Each(unittest.TestCase):
    def test_against_all_places(self):
        many = 0
        for spans, copies, registers in CASES:
            wanted = [places for places in all_places(spans, copies, registers) if is_first_of_its_kind(places)]
            told = list(each_places(spans, copies, registers))
            self.assertEqual(told, wanted)
            self.assertTrue(all(list(one) == pairs_of(spans, copies) for one in told))
            many += len(told)
        self.assertGreater(many, 500)

    def test_order_and_laziness(self):
        spans = Spans(12, {name: (at, at + 1) for at, name in enumerate("abcdef")})
        made = each_places(spans, 2, 64)
        self.assertTrue(isgenerator(made))
        first = next(made)
        self.assertEqual(set(first.values()), {0})
        first.clear()
        self.assertEqual(next(made)["f", 1], 1)
        few = Spans(12, {name: (at, at + 1) for at, name in enumerate("abcd")})
        rows = [tuple(one.values()) for one in each_places(few, 1, 64)]
        self.assertEqual((len(rows), rows), (15, sorted(rows)))
        self.assertTrue(isgenerator(each_places(None, None, None)))


class Lasting(unittest.TestCase):
    def test_enough_copies(self):
        self.assertEqual([enough_copies(spans) for spans in (FIVE, ONE, TWO)], [2, 3, 1])
        three = Spans(3, {"a": (0, 15), "b": (1, 22), "c": (2, 26)})
        self.assertEqual(enough_copies(three), 280)
        for copies in (1, 2, 40, 56, 64):
            self.assertIs(error_of(lasting_places, three, copies)[0], InvalidArgument)
        for spans in SPANS:
            self.assertEqual(enough_copies(spans), lcm(*[spans.most_of(*piece) for piece in spans.pieces]))

    def test_lasting_places(self):
        seen = 0
        for spans in some_spans(5700, 80, 4):
            enough = enough_copies(spans)
            for copies in range(1, 65):
                if copies % enough:
                    self.assertIs(error_of(lasting_places, spans, copies)[0], InvalidArgument)
                elif copies <= 12:
                    places = lasting_places(spans, copies)
                    self.assertEqual(list(places), pairs_of(spans, copies))
                    self.assertEqual(set(places.values()), set(range(spans.most)))
                    self.assertTrue(slow_is_places(spans, copies, spans.most, places))
                    self.assertFalse(long_names(spans, copies))
                    if copies <= 6:
                        self.assertTrue(is_places(spans, copies, spans.most, places))
                    seen += 1
        self.assertGreater(seen, 100)

    def test_many_copies(self):
        places = lasting_places(FIVE, 64)
        self.assertEqual((len(places), set(places.values())), (320, {0, 1}))
        self.assertTrue(slow_is_places(FIVE, 64, 2, places))
        self.assertEqual(lasting_places(Spans(1, {"a": (0, 1)}), 1), {("a", 0): 0})
        self.assertIs(error_of(lasting_places, FIVE, 63)[0], InvalidArgument)
        self.assertIs(error_of(lasting_places, FIVE, 65)[0], InvalidNumber)


class Charts(unittest.TestCase):
    def test_tick_by_tick(self):
        seen = 0
        for spans, copies, registers in CASES:
            kind, places = still_paper(spans, copies, registers)
            if kind != "places":
                continue
            rows = chart(spans, copies, registers, places)
            self.assertEqual([type(row) for row in (rows, *rows)], [tuple] * (registers + 1))
            for tick in range(copies * spans.interval):
                wanted = [None] * registers
                for name, turn in slow_alive(spans.rows, spans.interval, tick):
                    wanted[places[name, turn % copies]] = (name, turn % copies)
                self.assertEqual([row[tick] for row in rows], wanted)
            self.assertEqual({len(row) for row in rows}, {copies * spans.interval})
            seen += 1
        self.assertGreater(seen, 100)


if __name__ == "__main__":
    unittest.main()
