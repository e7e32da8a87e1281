"""overrounds.file.wirings: which value a register holds next."""

import unittest
from inspect import isgenerator
from itertools import permutations
from math import lcm, prod
from random import Random

from overrounds.errors import InvalidArgument, InvalidNumber, InvalidSpans, InvalidWiring, UnknownName
from overrounds.file import wirings
from overrounds.file.spans import Spans
from overrounds.file.wirings import (Wiring, each_wiring, fewest_cycles, how_many, is_wiring_paper, joined,
                                     wiring_paper)

from samples import all_kinds, error_of, some_rows

TWO = Spans(2, {"a": (0, 2), "b": (1, 3)})
PAIR = Spans(3, {"p": (0, 2), "q": (0, 2)})
ALONE = Wiring(PAIR, {"p": ("p", 1), "q": ("q", 1)})
FIVE = Spans(5, {"a": (0, 2), "b": (1, 3), "c": (2, 4), "d": (3, 5), "e": (4, 6)})
HIGH = 10 ** 12 - 1
ROWS = [some_rows(seed, 4) for seed in range(1000, 1120)]
NO_NUMBERS = (True, False, None, "1", (1,), [1], {}, 10 ** 39, TWO)


def tight_wirings(spans):
    """The wirings with as many registers as the most, by trying all rows of `next` names."""
    found = []
    for row in permutations(spans.names):
        # With waits below the interval there is one for each row; with as
        # many registers as the most no wait is longer.
        follows = {name: (other, (spans[other][0] - spans[name][1]) % spans.interval)
                   for name, other in zip(spans.names, row)}
        wiring = Wiring(spans, follows)
        if wiring.registers == spans.most:
            found.append(wiring)
    return found


def some_wirings(seed, many):
    """Wirings of some spans, with waits of several lengths."""
    draw, found = Random(seed), []
    interval, rows = some_rows(seed, 5)
    spans = Spans(interval, rows)
    for _ in range(many):
        row = list(spans.names)
        draw.shuffle(row)
        follows = {name: (other, (spans[other][0] - spans[name][1]) % interval + draw.choice((0, 0, 0, 1,
                                                                                              2)) * interval)
                   for name, other in zip(spans.names, row)}
        try:
            found.append(Wiring(spans, follows))
        except InvalidWiring:
            continue
    return found


WIRINGS = [wiring for seed in range(2000, 2060) for wiring in some_wirings(seed, 3)]


def slow_free(wiring, moment):
    """The values whose registers are free at a moment, by trying turns."""
    found, interval = [], wiring.spans.interval
    for name in wiring.spans.names:
        end, wait = wiring.spans[name][1], wiring[name][1]
        middle = (moment - end) // interval
        found += [(name, turn) for turn in range(middle - 80, middle + 3)
                  if end + interval * turn <= moment <= end + interval * turn + wait]
    return found


class Made(unittest.TestCase):
    def test_constant(self):
        self.assertEqual(wirings.MAX_WIRED, 72)

    def test_properties(self):
        told = {"q": ("p", 4), "p": ("q", 1)}
        wiring = Wiring(PAIR, told)
        self.assertEqual((wiring.spans, list(wiring.follows.items())), (PAIR, [("p", ("q", 1)), ("q", ("p", 4))]))
        self.assertEqual((wiring.registers, wiring.cycles, wiring.sizes, wiring.copies), (3, (("p", "q"),), (3,), 3))
        self.assertEqual(list(told), ["q", "p"])
        told["p"] = ("p", 1)
        wiring.follows.clear()
        wiring.spans.rows.clear()
        self.assertEqual(wiring, Wiring(PAIR, {"p": ("q", 1), "q": ("p", 4)}))
        for name in ("spans", "follows", "registers", "cycles", "sizes", "copies"):
            with self.assertRaises(AttributeError):
                setattr(wiring, name, 1)
        with self.assertRaises(TypeError):
            wiring["p"] = ("p", 1)

    def test_no_spans(self):
        for wrong in all_kinds() + [PAIR.rows]:
            self.assertIs(error_of(Wiring, wrong, None)[0], InvalidSpans, wrong)

    def test_wrong_follows(self):
        for wrong in [{"p": ("p", 1)}, {"p": ("p", 1), "q": ("q", 1), "r": ("r", 1)}, {"p": ("p", 1), "r": ("q", 1)},
                      {"p": ("p", 1), "q": ("p", 1)}, {"p": ("q", 1), "q": ("q", 1)}, {"p": ("p", 1), "q": ("q", -2)},
                      {"p": ("p", 1), "q": ("q", 0)}, {"p": ("p", 1), "q": ("q", 2)}, {"p": ("p", 1), "q": ("q", 3)},
                      {"p": ("p", True), "q": ("q", 1)}, {"p": ("p", 1), "q": ("q", None)},
                      {"p": ("p", 1), "q": ("q", "1")},
                      {"p": ("p", 1), "q": ("q",)}, {"p": ("p", 1), "q": ("q", 1, 0)}, {"p": ("p", 1), "q": ["q", 1]},
                      {"p": ("p", 1), "q": ("r", 1)}, {"p": ("p", 1), "q": (None, 1)}, {"p": ("p", 1), "q": (["q"], 1)},
                      {"p": ("p", 1), "q": "q"}, {"p": ("p", 1), "q": None}, {"p": ("p", 1), 1: ("q", 1)}, {},
                      {"p": ("p", 1), "q": ("q", 10 ** 39 - 10 ** 39 % 3 + 1)}, {"p": ("p", 1), "q": ("q", 10 ** 12)},
                      (("p", ("p", 1)), ("q", ("q", 1))), ALONE, *all_kinds()]:
            self.assertIs(error_of(Wiring, PAIR, wrong)[0], InvalidWiring, wrong)
            self.assertIs(is_wiring_paper(PAIR, 2, ("wiring", wrong)), False, wrong)

    def test_a_value_begins_where_a_wait_ends(self):
        for wait in range(12):
            kind, _ = error_of(Wiring, FIVE, {"a": ("b", 4), "b": ("c", 4), "c": ("d", 4), "d": ("e", 4),
                                              "e": ("a", wait)})
            self.assertIs(kind, None if wait in (4, 9) else InvalidWiring)
        late = Spans(3, {"p": (100, 102), "q": (-50, -43)})
        kinds = [error_of(Wiring, late, {"p": ("q", wait), "q": ("p", 2)})[0] for wait in range(7)]
        self.assertEqual([wait for wait in range(7) if kinds[wait] is None], [1, 4])

    def test_how_many_registers(self):
        for wait, wanted in ((1 + 3 * 70, 72), (1 + 3 * 71, None)):
            kind, wiring = error_of(Wiring, PAIR, {"p": ("p", 1), "q": ("q", wait)})
            self.assertEqual(kind, None if wanted else InvalidWiring)
            if wanted:
                self.assertEqual((wiring.registers, wiring.sizes, wiring.copies), (72, (1, 71), 71))
        self.assertEqual(Wiring(Spans(1, {"a": (0, 1)}), {"a": ("a", 71)}).copies, 72)
        self.assertIs(error_of(Wiring, Spans(1, {"a": (0, 1)}), {"a": ("a", 72)})[0], InvalidWiring)
        eight = Spans(2, {name: (at, at + 16) for at, name in enumerate("abcdefgh")})
        self.assertEqual(Wiring(eight, {name: (name, 0) for name in "abcdefgh"}).sizes, (8,) * 8)
        self.assertEqual(Wiring(eight, {name: (name, 2) for name in "abcdefgh"}).registers, 72)
        self.assertIs(error_of(Wiring, eight, {name: (name, 4 if name == "a" else 2) for name in "abcdefgh"})[0],
                      InvalidWiring)

    def test_defined_in_the_class(self):
        for name in ("spans", "follows", "registers", "cycles", "sizes", "copies", "after", "each_free", "exchanged",
                     "__getitem__", "__len__", "__eq__", "__str__"):
            self.assertIn(name, vars(Wiring))
        with self.assertRaises(TypeError):
            list(ALONE)
        with self.assertRaises(TypeError):
            iter(ALONE)


class Told(unittest.TestCase):
    def test_examples(self):
        self.assertEqual([ALONE.cycles, ALONE.sizes, ALONE.registers, ALONE.copies, list(ALONE.each_free(2)),
                          ALONE.after("p", 4)], [(("p",), ("q",)), (1, 1), 2, 1, [("p", 0), ("q", 0)], ("p", 5)])
        both = ALONE.exchanged(2, ("p", 0), ("q", 0))
        self.assertEqual([both.follows, both.cycles, both.sizes, both.copies, both == joined(ALONE), how_many(PAIR),
                          [one["p"] for one in each_wiring(PAIR)]],
                         [{"p": ("q", 1), "q": ("p", 1)}, (("p", "q"),), (2,), 2, True, 2, [("p", 1), ("q", 1)]])
        self.assertEqual([fewest_cycles(TWO, 1), fewest_cycles(TWO, 2), fewest_cycles(TWO, 3), wiring_paper(TWO, 1)[0],
                          wiring_paper(TWO, 2)], [None, 2, 1, "alive", ("wiring", {"a": ("a", 0), "b": ("b", 0)})])
        self.assertEqual([str(joined(Wiring(TWO, {"a": ("a", 0), "b": ("b", 2)}))),
                          is_wiring_paper(TWO, 3, ("wiring", {"a": ("b", 1), "b": ("a", 1)}))],
                         ["wiring of 3 registers in 1 cycles", True])

    def test_cycles_and_sizes(self):
        wiring = Wiring(FIVE, {"a": ("c", 0), "c": ("e", 0), "e": ("a", 4), "b": ("d", 0), "d": ("b", 1)})
        self.assertEqual((wiring.cycles, wiring.sizes, wiring.registers, wiring.copies),
                         ((("a", "c", "e"), ("b", "d")), (2, 1), 3, 2))
        for wiring in WIRINGS:
            self.assertEqual(sorted(name for cycle in wiring.cycles for name in cycle), list(wiring.spans.names))
            self.assertEqual(list(wiring.cycles), sorted(wiring.cycles))
            for cycle, size in zip(wiring.cycles, wiring.sizes):
                self.assertEqual(cycle[0], min(cycle))
                self.assertEqual([wiring[name][0] for name in cycle], [*cycle[1:], cycle[0]])
                ticks = sum(wiring.spans[name][1] - wiring.spans[name][0] + wiring[name][1] for name in cycle)
                self.assertEqual(ticks, size * wiring.spans.interval)
            self.assertEqual((wiring.registers, wiring.copies), (sum(wiring.sizes), lcm(*wiring.sizes)))

    def test_after(self):
        for wiring in WIRINGS:
            spans = wiring.spans
            for name in spans.names:
                for turn in (-7, 0, 1, 1000):
                    other, later = wiring.after(name, turn)
                    self.assertEqual(other, wiring[name][0])
                    self.assertEqual(spans[other][0] + spans.interval * later,
                                     spans[name][1] + spans.interval * turn + wiring[name][1])
        self.assertEqual(Wiring(PAIR, {"p": ("q", 4), "q": ("p", 1)}).after("p", -1), ("q", 1))
        self.assertEqual(ALONE.after("p", HIGH), ("p", HIGH + 1))

    def test_values_go_round_in_their_registers(self):
        for wiring in WIRINGS[::3]:
            for cycle, size in zip(wiring.cycles, wiring.sizes):
                value, steps = (cycle[0], 0), 0
                while steps == 0 or value[0] != cycle[0]:
                    value, steps = wiring.after(*value), steps + 1
                self.assertEqual((value, steps), ((cycle[0], size), len(cycle)))

    def test_each_free(self):
        self.assertTrue(isgenerator(ALONE.each_free(0)))
        long = Wiring(PAIR, {"p": ("q", 7), "q": ("p", 1)})
        self.assertEqual([list(long.each_free(moment)) for moment in (0, 1, 2, 3)],
                         [[("p", -3), ("p", -2), ("p", -1), ("q", -1)], [("p", -2), ("p", -1)],
                          [("p", -2), ("p", -1), ("p", 0), ("q", 0)], [("p", -2), ("p", -1), ("p", 0), ("q", 0)]])
        for wiring in WIRINGS:
            interval = wiring.spans.interval
            for moment in (*range(-interval - 1, interval + 2), -1000 * interval):
                free = list(wiring.each_free(moment))
                self.assertEqual(free, slow_free(wiring, moment))
                self.assertEqual(len(free) + wiring.spans.across(moment), wiring.registers)

    def test_item_and_length(self):
        wiring = Wiring(PAIR, {"p": ("q", 4), "q": ("p", 1)})
        self.assertEqual((wiring["p"], wiring["q"], len(wiring), len(ALONE)), (("q", 4), ("p", 1), 1, 2))

    def test_equal_and_text(self):
        self.assertIs(ALONE == Wiring(PAIR, {"q": ("q", 1), "p": ("p", 1)}), True)
        self.assertIs(ALONE != Wiring(PAIR, {"q": ("q", 1), "p": ("p", 1)}), False)
        for other in [Wiring(PAIR + 3, ALONE.follows), Wiring(PAIR, {"p": ("q", 1), "q": ("p", 1)}),
                      Wiring(PAIR, {"p": ("p", 1), "q": ("q", 4)}), PAIR, ALONE.follows, "wiring", *all_kinds()]:
            self.assertIs(ALONE == other, False)
            self.assertIs(ALONE != other, True)
        self.assertEqual([str(ALONE), str(joined(ALONE))],
                         ["wiring of 2 registers in 2 cycles", "wiring of 2 registers in 1 cycles"])


class Exchanged(unittest.TestCase):
    def test_between_two_cycles_and_within_one(self):
        both = ALONE.exchanged(3, ("p", 0), ("q", 0))
        self.assertEqual((both.follows, both.exchanged(2, ("p", 0), ("q", 0))), ({"p": ("q", 1), "q": ("p", 1)}, ALONE))
        self.assertEqual(ALONE.follows, {"p": ("p", 1), "q": ("q", 1)})
        changed = {1: 0, -1: 0}
        for wiring in WIRINGS:
            for moment in (-4, 0, 1, 9):
                free = list(wiring.each_free(moment))
                for one in free:
                    for other in free:
                        if one[0] == other[0]:
                            continue
                        made = wiring.exchanged(moment, one, other)
                        self.assertEqual((made.spans, made.registers), (wiring.spans, wiring.registers))
                        self.assertEqual((made.after(*one), made.after(*other)),
                                         (wiring.after(*other), wiring.after(*one)))
                        self.assertEqual({k: v for k, v in made.follows.items() if k not in (one[0], other[0])},
                                         {k: v for k, v in wiring.follows.items() if k not in (one[0], other[0])})
                        same = any(one[0] in cycle and other[0] in cycle for cycle in wiring.cycles)
                        self.assertEqual(len(made) - len(wiring), 1 if same else -1)
                        changed[len(made) - len(wiring)] += 1
        self.assertGreater(min(changed.values()), 50)

    def test_values_that_are_not_free(self):
        for wrong in [("p", 1), ("p", -1), ("p", True), ("p", False), ("p", None), ("p", "0"), ("r", 0), ("p",),
                      ("p", 0, 0),
                      ["p", 0], "p", 0, None, {"p": 0}, ("p", 10 ** 39), (["p"], 0), (None, 0), ("p", (0,)), PAIR,
                      *all_kinds()]:
            self.assertIs(error_of(ALONE.exchanged, 2, wrong, ("q", 0))[0], InvalidArgument, wrong)
            self.assertIs(error_of(ALONE.exchanged, 2, ("q", 0), wrong)[0], InvalidArgument, wrong)
        for moment in (1, 4):
            self.assertIs(error_of(ALONE.exchanged, moment, ("p", 0), ("q", 0))[0], InvalidArgument)
        for moment in (2, 3):
            self.assertIsNone(error_of(ALONE.exchanged, moment, ("p", 0), ("q", 0))[0])

    def test_true_is_no_turn(self):
        self.assertEqual(list(ALONE.each_free(5)), [("p", 1), ("q", 1)])
        self.assertIs(error_of(ALONE.exchanged, 5, ("p", True), ("q", 1))[0], InvalidArgument)
        self.assertIs(error_of(ALONE.exchanged, 5, ("p", 1), ("q", True))[0], InvalidArgument)
        self.assertIsNone(error_of(ALONE.exchanged, 5, ("p", 1), ("q", 1))[0])

    def test_turns_of_more_than_twelve_digits(self):
        far = Wiring(Spans(1, {"a": (-5, -4), "b": (-5, -4)}), {"a": ("a", 0), "b": ("b", 0)})
        self.assertEqual(list(far.each_free(HIGH)), [("a", HIGH + 4), ("b", HIGH + 4)])
        self.assertIs(error_of(far.exchanged, HIGH, ("a", HIGH + 4), ("b", HIGH + 4))[0], InvalidArgument)
        self.assertIsNone(error_of(far.exchanged, HIGH - 4, ("a", HIGH), ("b", HIGH))[0])

    def test_of_one_name(self):
        long = Wiring(PAIR, {"p": ("q", 7), "q": ("p", 1)})
        self.assertIs(error_of(long.exchanged, 2, ("p", -1), ("p", 0))[0], InvalidArgument)
        self.assertIs(error_of(long.exchanged, 2, ("p", 0), ("p", 0))[0], InvalidArgument)
        # The register of p waits for two rounds longer if it goes on as that of q did.
        self.assertEqual(long.exchanged(2, ("p", -2), ("q", 0)).follows, {"p": ("p", 7), "q": ("q", 1)})
        self.assertEqual(long.exchanged(2, ("p", 0), ("q", 0)).follows, {"p": ("p", 1), "q": ("q", 7)})

    def test_wrong_numbers_and_names(self):
        for wrong in NO_NUMBERS:
            for call in (lambda: list(ALONE.each_free(wrong)), lambda: ALONE.after("p", wrong),
                         lambda: ALONE.exchanged(wrong, None, None)):
                kind, error = error_of(call)
                self.assertIs(kind, InvalidNumber, wrong)
                self.assertIs(error.value, wrong)
        for wrong in all_kinds() + ["r", 0]:
            for call in (lambda: ALONE[wrong], lambda: ALONE.after(wrong, None)):
                kind, error = error_of(call)
                self.assertIs(kind, UnknownName, wrong)
                self.assertIs(error.wanted, wrong)


class Papers(unittest.TestCase):
    def test_fewer_as_many_and_more(self):
        for interval, rows in ROWS:
            spans = Spans(interval, rows)
            most = spans.most
            for registers in sorted({0, most - 1, most, most + 1, most + 4, 72}):
                paper = wiring_paper(spans, registers)
                self.assertIs(is_wiring_paper(spans, registers, paper), True)
                self.assertEqual(paper[0], "wiring" if registers >= most else "alive")
                if registers >= most:
                    wiring = Wiring(spans, paper[1])
                    self.assertEqual(wiring.registers, registers)
                    self.assertEqual(list(paper[1]), list(spans.names))
                    self.assertIs(is_wiring_paper(spans, registers - 1, paper), False)
                else:
                    self.assertGreater(spans.alive(paper[1]), registers)

    def test_values_near_right_ones(self):
        good = {"a": ("b", 1), "b": ("a", 1)}
        self.assertIs(is_wiring_paper(TWO, 3, ("wiring", good)), True)
        for registers, value in [(2, ("wiring", good)), (4, ("wiring", good)), (0, ("wiring", good)), (3, ("alive", 0)),
                                 (3, ("wiring", {"a": ("b", 1), "b": ("a", 3)})), (3, ("wiring", Wiring(TWO, good))),
                                 (3, ("wiring", good, 0)), (3, ["wiring", good]), (3, ("Wiring", good)), (3, good),
                                 (3, None)]:
            self.assertIs(is_wiring_paper(TWO, registers, value), False, value)
        spans = Spans(3, {"a": (0, 2), "b": (1, 3)})
        self.assertEqual([spans.alive(slot) for slot in range(3)], [1, 2, 1])
        for registers, slots in ((0, (0, 1, 2)), (1, (1,)), (2, ())):
            self.assertEqual(tuple(slot for slot in range(-3, 6) if is_wiring_paper(spans, registers, ("alive", slot))),
                             slots)
        for wrong in (True, None, "1", (1,), [1], 4, -2, 10 ** 39, *all_kinds()):
            self.assertIs(is_wiring_paper(spans, 1, ("alive", wrong)), False, wrong)
            self.assertIs(is_wiring_paper(spans, 1, wrong), False, wrong)

    def test_no_registers(self):
        self.assertEqual(wiring_paper(TWO, 0)[0], "alive")
        self.assertIsNone(fewest_cycles(TWO, 0))
        self.assertEqual((wiring_paper(TWO, 72)[0], fewest_cycles(TWO, 72)), ("wiring", 1))

    def test_errors(self):
        for call in (wiring_paper, fewest_cycles, lambda *told: is_wiring_paper(*told, None)):
            for wrong in all_kinds() + [TWO.rows, ALONE]:
                self.assertIs(error_of(call, wrong, 73)[0], InvalidSpans, wrong)
            for wrong in (-1, 73, *NO_NUMBERS):
                kind, error = error_of(call, TWO, wrong)
                self.assertIs(kind, InvalidNumber, wrong)
                self.assertIs(error.value, wrong)
        for wrong in all_kinds() + [TWO.rows, ALONE]:
            for call in (how_many, each_wiring):
                self.assertIs(error_of(call, wrong)[0], InvalidSpans, wrong)
        for wrong in all_kinds() + [TWO, ALONE.follows]:
            self.assertIs(error_of(joined, wrong)[0], InvalidWiring, wrong)
        each_wiring(None)


class Cycles(unittest.TestCase):
    def test_joined(self):
        for wiring in WIRINGS + [one for interval, rows in ROWS for one in each_wiring(Spans(interval, rows))]:
            one = joined(wiring)
            self.assertEqual((one.spans, one.registers), (wiring.spans, wiring.registers))
            self.assertEqual(len(one), fewest_cycles(wiring.spans, wiring.registers))
            if wiring.registers == wiring.spans.most:
                self.assertEqual(one.cycles, tuple(tuple(cycle) for cycle in one.cycles))
                self.assertEqual(tuple(sorted(tuple(sorted(cycle)) for cycle in one.cycles)), wiring.spans.pieces)

    def test_fewest_cycles_of_all_wirings(self):
        for interval, rows in ROWS:
            spans = Spans(interval, rows)
            self.assertEqual(fewest_cycles(spans, spans.most), min(len(one) for one in tight_wirings(spans)))
            self.assertEqual(fewest_cycles(spans, spans.most + 1), 1)
            self.assertIsNone(fewest_cycles(spans, spans.most - 1))

    def test_tight_wirings_stay_within_the_pieces(self):
        for interval, rows in ROWS:
            spans = Spans(interval, rows)
            for wiring in each_wiring(spans):
                self.assertLess(max(wait for _, wait in wiring.follows.values()), interval)
                for cycle in wiring.cycles:
                    self.assertTrue(any(set(cycle) <= set(piece) for piece in spans.pieces))


class All(unittest.TestCase):
    def test_against_all_rows_of_names(self):
        seen = 0
        for interval, rows in ROWS + [some_rows(seed, 6) for seed in range(3000, 3020)]:
            spans = Spans(interval, rows)
            wanted = tight_wirings(spans)
            told = list(each_wiring(spans))
            seen += len(told) > 1
            self.assertEqual(len(told), len(wanted))
            self.assertTrue(all(one == other for one, other in zip(told, wanted)))
            self.assertEqual(how_many(spans), len(told))
            nexts = [tuple(one[name][0] for name in spans.names) for one in told]
            self.assertEqual(nexts, sorted(set(nexts)))
        self.assertGreater(seen, 40)

    def test_how_many(self):
        self.assertEqual([how_many(TWO), how_many(FIVE), how_many(Spans(1, {"a": (0, 8)}))], [1, 1, 1])
        self.assertEqual(how_many(Spans(9, {"a": (0, 4), "b": (1, 3), "c": (2, 5), "d": (6, 7)})), 6 * 3)
        eight = Spans(2, {name: (0, 1) for name in "abcdefgh"})
        self.assertEqual(how_many(eight), prod(range(1, 9)))
        self.assertTrue(isgenerator(each_wiring(eight)))
        first = next(each_wiring(eight))
        self.assertEqual(first.follows, {name: (name, 1) for name in "abcdefgh"})
        self.assertEqual(len(joined(first)), 1)

    def test_each_is_a_wiring(self):
        for one in each_wiring(FIVE):
            self.assertIs(type(one), Wiring)
            self.assertEqual((one.spans, one.registers), (FIVE, 2))
            self.assertIs(is_wiring_paper(FIVE, 2, ("wiring", one.follows)), True)


if __name__ == "__main__":
    unittest.main()
