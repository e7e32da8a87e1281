"""overrounds.file.spans: when values are alive."""

import unittest
from inspect import isgenerator
from itertools import combinations, product
from random import Random

from overrounds.errors import InvalidArgument, InvalidLoop, InvalidNumber, InvalidSpans, TooMany, UnknownName
from overrounds.file import spans as module
from overrounds.file.spans import Spans, spans_of
from overrounds.loop.loops import Loop, Operation
from overrounds.plan.plans import is_fitting
from overrounds.rings.starts import free_interval, least_starts

from samples import (NO_INTERVALS, NO_STARTS, ROUND, SUM, all_kinds, error_of, slow_across, slow_alive, some_loops,
                     some_rows)

TWO = Spans(2, {"a": (0, 2), "b": (1, 3)})
FIVE = Spans(5, {"a": (0, 2), "b": (1, 3), "c": (2, 4), "d": (3, 5), "e": (4, 6)})
PARTED = Spans(4, {"a": (0, 4), "b": (1, 3), "c": (3, 5), "d": (2, 10)})
HIGH = 10 ** 12 - 1
ROWS = [some_rows(seed, 5) for seed in range(160)] + [(4, PARTED.rows), (3, {"a": (0, 3), "b": (1, 7), "c": (2, 5)})]


def some_names(draw, rows):
    """Some names of spans, perhaps repeated, perhaps none."""
    return [draw.choice(sorted(rows)) for _ in range(draw.choice((0, 1, 2, 3)))]


def slow_most(rows, interval, names):
    return max(len(slow_alive(rows, interval, tick, names)) for tick in range(interval))


def slow_full(rows, interval, moment, names):
    return len(slow_across(rows, interval, moment, names)) == slow_most(rows, interval, names)


def slow_apart(rows, interval, names):
    others = sorted(set(rows) - set(names))
    if not names or not others:
        return False
    return all(slow_full(rows, interval, at, names) or slow_full(rows, interval, at, others) for at in range(interval))


def slow_pieces(rows, interval):
    """The pieces, by trying all parts of the names."""
    names = sorted(rows)
    parts = [set(part) for many in range(len(names)) for part in combinations(names, many)]
    apart = [part for part in parts if slow_apart(rows, interval, sorted(part))]
    return tuple(sorted({tuple(b for b in names if all((a in part) == (b in part) for part in apart)) for a in names}))


class Made(unittest.TestCase):
    def test_constants(self):
        self.assertEqual((module.MAX_VALUES, module.MAX_LIFE), (8, 8))

    def test_properties(self):
        told = {"b": (1, 3), "a": (-4, 2)}
        spans = Spans(2, told)
        self.assertEqual((spans.interval, list(spans.rows.items()), spans.names),
                         (2, [("a", (-4, 2)), ("b", (1, 3))], ("a", "b")))
        self.assertEqual(list(told), ["b", "a"])
        told["a"] = (0, 1)
        spans.rows["a"] = (0, 1)
        spans.rows.clear()
        self.assertEqual(spans.rows, {"a": (-4, 2), "b": (1, 3)})
        for name in ("interval", "rows", "names", "most", "peaks", "total", "pieces", "normal"):
            with self.assertRaises(AttributeError):
                setattr(spans, name, 1)
        with self.assertRaises(TypeError):
            spans["a"] = (0, 1)

    def test_how_many_names(self):
        self.assertEqual(len(Spans(1, {"a": (0, 1)})), 1)
        eight = {letter: (0, 1) for letter in "abcdefgh"}
        self.assertEqual(len(Spans(1, eight)), 8)
        for wrong in ({}, {**eight, "i": (0, 1)}):
            self.assertIs(error_of(Spans, 1, wrong)[0], InvalidSpans)

    def test_how_long(self):
        for interval in (1, 2, 31, 32):
            for length in (1, interval, 8 * interval):
                spans = Spans(interval, {"a": (-3, length - 3)})
                self.assertEqual((spans["a"], spans.total), ((-3, length - 3), length))
            for length in (0, -1, 8 * interval + 1):
                self.assertIs(error_of(Spans, interval, {"a": (-3, length - 3)})[0], InvalidSpans)
        self.assertEqual(Spans(1, {"a": (HIGH - 1, HIGH), "b": (-HIGH, 2 - HIGH)}).total, 3)

    def test_wrong_rows(self):
        for wrong in [{"a": (0, 1, 2)}, {"a": (0,)}, {"a": [0, 1]}, {"a": (0, True)}, {"a": (False, 1)},
                      {"a": (None, 1)},
                      {"a": (0, None)}, {"a": ("0", 1)}, {"a": 1}, {"a": None}, {"a": (0, 1), "B": (0, 1)},
                      {"": (0, 1)},
                      {"abcdefghi": (0, 1)}, {1: (0, 1)}, {None: (0, 1)}, {("a",): (0, 1)}, {"a": (HIGH, HIGH + 1)},
                      {"a": (10 ** 39, 10 ** 39 + 1)}, {"a": (0, 1), "b": (1, 1)}, (("a", (0, 1)),), [("a", (0, 1))],
                      TWO, *all_kinds()]:
            self.assertIs(error_of(Spans, 2, wrong)[0], InvalidSpans, wrong)

    def test_intervals(self):
        for wrong in NO_INTERVALS:
            kind, error = error_of(Spans, wrong, None)
            self.assertIs(kind, InvalidNumber, wrong)
            self.assertIs(error.value, wrong)

    def test_defined_in_the_class(self):
        for name in ("interval", "rows", "names", "most", "peaks", "total", "pieces", "normal", "alive", "across",
                     "is_full",
                     "most_of", "is_apart", "each_alive", "__getitem__", "__contains__", "__len__", "__iter__",
                     "__add__",
                     "__or__", "__and__", "__eq__", "__str__"):
            self.assertIn(name, vars(Spans))


class Counted(unittest.TestCase):
    def test_examples(self):
        self.assertEqual([TWO.most, TWO.peaks, TWO.alive(0), TWO.across(0), TWO.across(0, "a"), list(TWO.each_alive(0)),
                          TWO.is_full(0, "a"), TWO.is_full(0, "b")],
                         [2, (0, 1), 2, 1, 0, [("a", 0), ("b", -1)], False, True])
        self.assertEqual([FIVE.most, FIVE.most_of("a", "c"), FIVE.across(7), FIVE.total, (FIVE + 3)["e"],
                          (FIVE + 3).normal["e"], str(FIVE & ("b", "d"))],
                         [2, 1, 1, 10, (7, 9), (2, 4), "spans of 2 names in 5 ticks"])
        self.assertEqual([TWO.pieces, len(FIVE.pieces), TWO.is_apart("a"), TWO.is_apart("b", "a"),
                          spans_of(SUM, 2, {"item": 0, "sum": 1}).rows],
                         [(("a",), ("b",)), 1, True, False, {"item": (1, 2), "sum": (3, 4)}])

    def test_tick_by_tick(self):
        draw = Random(1)
        for interval, rows in ROWS:
            spans = Spans(interval, rows)
            for tick in [*range(-interval - 2, interval + 3), 1000 * interval + 1, -1000 * interval - 1]:
                names = some_names(draw, rows)
                alive = slow_alive(rows, interval, tick, names or None)
                across = slow_across(rows, interval, tick, names or None)
                self.assertEqual(spans.alive(tick, *names), len(alive))
                self.assertEqual(spans.across(tick, *names), len(across))
                self.assertIs(spans.is_full(tick, *names), slow_full(rows, interval, tick, names or None))
                self.assertEqual(list(spans.each_alive(tick)), slow_alive(rows, interval, tick))

    def test_properties_tick_by_tick(self):
        for interval, rows in ROWS:
            spans = Spans(interval, rows)
            counts = [len(slow_alive(rows, interval, tick)) for tick in range(interval)]
            self.assertEqual(spans.most, max(counts))
            self.assertEqual(spans.peaks, tuple(at for at, many in enumerate(counts) if many == max(counts)))
            self.assertEqual(spans.total, sum(end - begin for begin, end in rows.values()))
            self.assertEqual(spans.total, sum(counts))
            for name, (begin, end) in spans.normal.rows.items():
                self.assertTrue(0 <= begin < interval and (begin - rows[name][0]) % interval == 0)
                self.assertEqual(end - begin, rows[name][1] - rows[name][0])
            self.assertEqual(spans.normal.interval, interval)
            self.assertEqual([spans.normal.alive(tick) for tick in range(interval)], counts)

    def test_most_of(self):
        draw = Random(2)
        for interval, rows in ROWS:
            spans = Spans(interval, rows)
            names = some_names(draw, rows)
            self.assertEqual(spans.most_of(*names), slow_most(rows, interval, names))
            self.assertEqual(spans.most_of(*sorted(rows)), spans.most)
        self.assertEqual((FIVE.most_of(), FIVE.most_of("a"), FIVE.most_of("a", "a", "b")), (0, 1, 2))

    def test_far_away(self):
        for tick in (-HIGH, HIGH):
            slot = tick % 5
            self.assertEqual((FIVE.alive(tick), FIVE.across(tick)), (FIVE.alive(slot), FIVE.across(slot)))
            self.assertEqual(len(list(FIVE.each_alive(tick))), FIVE.alive(slot))
            self.assertEqual(FIVE.is_full(tick, "a"), FIVE.is_full(slot, "a"))
        self.assertEqual(list(Spans(1, {"a": (0, 2)}).each_alive(HIGH)), [("a", HIGH - 1), ("a", HIGH)])

    def test_repeated_names_count_once(self):
        self.assertEqual((FIVE.alive(1, "a", "b", "a"), FIVE.alive(1, "a", "b")), (2, 2))
        self.assertEqual((FIVE.across(1, "a", "a"), FIVE.most_of("c", "c")), (1, 1))
        self.assertEqual((FIVE.is_full(1, "a", "a"), TWO.is_apart("a", "a"), TWO.is_apart("a", "b", "a")),
                         (True, True, False))

    def test_each_alive_is_ascending(self):
        long = Spans(2, {"b": (0, 16), "a": (1, 5)})
        self.assertTrue(isgenerator(long.each_alive(0)))
        self.assertEqual(list(long.each_alive(4)), [("a", 0), ("a", 1), *[("b", turn) for turn in range(-5, 3)]])
        self.assertEqual(list(Spans(5, {"a": (0, 1)}).each_alive(1)), [])


class Apart(unittest.TestCase):
    def test_against_all_parts(self):
        kinds = {}
        for interval, rows in ROWS:
            spans = Spans(interval, rows)
            pieces = slow_pieces(rows, interval)
            kinds[len(pieces)] = kinds.get(len(pieces), 0) + 1
            self.assertEqual(spans.pieces, pieces)
            self.assertEqual(spans.pieces, pieces)
            self.assertEqual(sum(spans.most_of(*piece) for piece in pieces), spans.most)
            for moment in range(interval):
                self.assertLessEqual([spans.is_full(moment, *piece) for piece in pieces].count(False), 1)
            for many in range(len(rows) + 1):
                for part in combinations(sorted(rows), many):
                    whole = all(set(piece) <= set(part) or not set(piece) & set(part) for piece in pieces)
                    told = spans.is_apart(*part)
                    self.assertIs(told, slow_apart(rows, interval, part))
                    self.assertIs(told, whole and 0 < many < len(rows))
        self.assertTrue({1, 2, 3} <= set(kinds))

    def test_pieces_of_all_small_spans(self):
        kinds = {}
        for interval, most in ((1, 4), (2, 3), (3, 2)):
            every = [(begin, begin + length) for begin in range(interval) for length in range(1, 2 * interval + 2)]
            for many in range(1, most + 1):
                for row in product(every, repeat=many):
                    rows = dict(zip("abcd", row))
                    pieces = slow_pieces(rows, interval)
                    kinds[len(pieces)] = kinds.get(len(pieces), 0) + 1
                    self.assertEqual(Spans(interval, rows).pieces, pieces, (interval, rows))
        self.assertEqual(set(kinds), {1, 2})

    def test_pieces_of_many_names(self):
        draw = Random(8)
        kinds = {}
        for _ in range(60):
            interval = draw.choice((2, 3, 4, 6))
            rows = {}
            for name in draw.sample("abcdefgh", draw.randint(4, 6)):
                begin = draw.randint(-9, 9)
                length = draw.choice((interval, 2 * interval, draw.randint(1, 8 * interval)))
                rows[name] = (begin, begin + length)
            pieces = slow_pieces(rows, interval)
            kinds[len(pieces)] = kinds.get(len(pieces), 0) + 1
            self.assertEqual(Spans(interval, rows).pieces, pieces, (interval, rows))
        self.assertGreater(len(kinds), 3, kinds)

    def test_pieces(self):
        self.assertEqual(PARTED.pieces, (("a",), ("b", "c"), ("d",)))
        self.assertEqual((FIVE.pieces, Spans(1, {"a": (0, 1)}).pieces), ((("a", "b", "c", "d", "e"),), (("a",),)))
        self.assertEqual(Spans(3, {"a": (0, 3), "b": (1, 7), "c": (2, 5)}).pieces, (("a",), ("b",), ("c",)))
        self.assertEqual(Spans(3, {"a": (0, 3), "b": (0, 3), "c": (0, 3)}).pieces, (("a", "b", "c"),))

    def test_is_apart(self):
        self.assertEqual([TWO.is_apart(), TWO.is_apart("a"), TWO.is_apart("b"), TWO.is_apart("a", "b")],
                         [False, True, True, False])
        self.assertEqual([PARTED.is_apart(*names) for names in ("b", "bc", "ad", "abc", "abd")],
                         [False, True, True, True, False])

    def test_eight_names(self):
        spans = Spans(32, {name: (4 * at, 4 * at + 32) for at, name in enumerate("abcdefgh")})
        self.assertEqual(spans.pieces, tuple((name,) for name in "abcdefgh"))


class Errors(unittest.TestCase):
    def test_numbers(self):
        for wrong in (True, None, "1", (1,), [1], 10 ** 12, -10 ** 12, 10 ** 39, SUM):
            for call in (TWO.alive, TWO.across, TWO.is_full, TWO.each_alive):
                kind, error = error_of(call, wrong)
                self.assertIs(kind, InvalidNumber, wrong)
                self.assertIs(error.value, wrong)
            self.assertIs(error_of(TWO.alive, wrong, "x")[0], InvalidNumber)

    def test_names(self):
        for wrong in all_kinds() + ["c", "aa", 0, ("a", "b")]:
            for call in (lambda *names: TWO.alive(0, *names), lambda *names: TWO.across(0, *names),
                         lambda *names: TWO.is_full(0, *names), TWO.most_of, TWO.is_apart):
                for names in ((wrong,), ("a", wrong), ("a", "b", wrong, "d")):
                    kind, error = error_of(call, *names)
                    self.assertIs(kind, UnknownName, wrong)
                    self.assertIs(error.wanted, wrong)
            kind, error = error_of(lambda: TWO[wrong])
            self.assertIs(kind, UnknownName, wrong)
            self.assertIs(error.wanted, wrong)
            self.assertIs(wrong in TWO, False)

    def test_container(self):
        self.assertEqual((TWO["b"], "a" in TWO, len(TWO), list(TWO), list(TWO)),
                         ((1, 3), True, 2, ["a", "b"], ["a", "b"]))
        self.assertEqual(list(Spans(1, {"c": (0, 1), "a": (0, 1), "b": (0, 1)})), ["a", "b", "c"])

    def test_equal_and_text(self):
        self.assertIs(TWO == Spans(2, {"b": (1, 3), "a": (0, 2)}), True)
        self.assertIs(TWO != Spans(2, {"b": (1, 3), "a": (0, 2)}), False)
        for other in [Spans(3, TWO.rows), TWO + 2, Spans(2, {"a": (0, 2)}), Spans(2, {"a": (0, 2), "b": (1, 2)}),
                      Spans(2, {"a": (0, 2), "c": (1, 3)}), TWO.rows, "spans", *all_kinds()]:
            self.assertIs(TWO == other, False)
            self.assertIs(TWO != other, True)
        self.assertEqual(str(TWO), "spans of 2 names in 2 ticks")


class Together(unittest.TestCase):
    def test_later(self):
        self.assertEqual((TWO + 3).rows, {"a": (3, 5), "b": (4, 6)})
        self.assertEqual((TWO + -3).rows, {"a": (-3, -1), "b": (-2, 0)})
        self.assertEqual((TWO + 0, (TWO + 5) + -5, TWO.interval, (TWO + 1).interval), (TWO, TWO, 2, 2))
        self.assertEqual((TWO + (HIGH - 3))["b"], (HIGH - 2, HIGH))
        self.assertEqual((TWO + -HIGH)["a"], (-HIGH, 2 - HIGH))
        for wrong in (True, None, "1", (1,), [1], 10 ** 12, 10 ** 39, HIGH - 2, HIGH, TWO, {}, SUM):
            with self.assertRaises(InvalidArgument, msg=wrong):
                TWO + wrong
        with self.assertRaises(InvalidArgument):
            (TWO + -1) + -HIGH

    def test_of_both(self):
        other = Spans(2, {"c": (5, 6), "A".lower() * 2: (0, 16)})
        self.assertEqual(list((TWO | other).rows.items()),
                         [("a", (0, 2)), ("aa", (0, 16)), ("b", (1, 3)), ("c", (5, 6))])
        self.assertEqual((TWO | other, len(TWO), len(other)), (other | TWO, 2, 2))
        six = Spans(2, {name: (0, 1) for name in "cdefgh"})
        self.assertEqual(len(TWO | six), 8)
        for wrong in [TWO, Spans(2, {"b": (0, 1), "c": (0, 1)}), Spans(3, {"c": (0, 1)}), six | Spans(2, {"i": (0, 1)}),
                      other.rows, SUM, *all_kinds()]:
            with self.assertRaises(InvalidArgument, msg=wrong):
                TWO | wrong

    def test_of_some_names(self):
        self.assertEqual((FIVE & ("b", "d")).rows, {"b": (1, 3), "d": (3, 5)})
        self.assertEqual(((FIVE & FIVE.names), (FIVE & ("e",)).rows), (FIVE, {"e": (4, 6)}))
        for wrong in [(), ("b", "a"), ("a", "a"), ("a", "f"), ["a"], {"a": 1}, "a", "ab", ("a", None), ("a", ["b"]),
                      (("a",),),
                      None, FIVE, *all_kinds()]:
            if wrong != ("a",):
                with self.assertRaises(InvalidArgument, msg=wrong):
                    FIVE & wrong


class OfALoop(unittest.TestCase):
    def test_never_read(self):
        self.assertEqual(spans_of(Loop(Operation("a", ticks=4)), 1, {"a": 7}).rows, {"a": (11, 12)})
        self.assertEqual(spans_of(Loop(Operation("a", ticks=4)), 32, {"a": 10 ** 6}).rows,
                         {"a": (10 ** 6 + 4, 10 ** 6 + 5)})

    def test_read_in_the_same_round_and_later(self):
        loop = Loop(Operation("a", ticks=2), Operation("b", reads=(("a", 0),)))
        self.assertEqual(spans_of(loop, 3, {"a": 1, "b": 3}).rows, {"a": (3, 4), "b": (4, 5)})
        self.assertEqual(spans_of(loop, 3, {"a": 1, "b": 9}).rows, {"a": (3, 10), "b": (10, 11)})
        later = Loop(Operation("a", ticks=2), Operation("b", reads=(("a", 3),)))
        self.assertEqual(spans_of(later, 3, {"a": 1, "b": 3}).rows, {"a": (3, 13), "b": (4, 5)})
        both = Loop(Operation("a", ticks=2), Operation("b", reads=(("a", 0), ("a", 1))),
                    Operation("c", reads=(("a", 2),)))
        self.assertEqual(spans_of(both, 3, {"a": 0, "b": 2, "c": 0})["a"], (2, 7))
        self.assertEqual(spans_of(both, 3, {"a": 0, "b": 6, "c": 0})["a"], (2, 10))
        self.assertEqual(list(spans_of(both, 3, {"c": 0, "b": 2, "a": 0}).rows), ["a", "b", "c"])

    def test_orders_are_no_readings(self):
        loop = Loop(Operation("a"), Operation("b"), orders=(("a", "b", 4, 0),))
        self.assertEqual(spans_of(loop, 3, {"a": 0, "b": 9}).rows, {"a": (1, 2), "b": (10, 11)})

    def test_many_loops_against_all_readings(self):
        seen = 0
        for loop in some_loops(300):
            for interval in {free_interval(loop), 11}:
                if interval < free_interval(loop):
                    continue
                starts = least_starts(loop, interval)
                rows = {}
                for name in loop.names:
                    begin = starts[name] + loop[name].ticks
                    reads = [starts[one.name] + interval * back for one in loop.operations
                             for source, back in one.reads if source == name]
                    rows[name] = (begin, max([begin, *reads]) + 1)
                if max(end - begin for begin, end in rows.values()) <= 8 * interval:
                    seen += 1
                    spans = spans_of(loop, interval, starts)
                    self.assertEqual((spans.rows, spans.interval), (rows, interval))
                else:
                    self.assertIs(error_of(spans_of, loop, interval, starts)[0], TooMany)
        self.assertGreater(seen, 200)

    def test_values_are_alive_when_they_are_read(self):
        loop, interval, starts = ROUND, 3, {"a": 0, "b": 3, "c": 4}
        spans = spans_of(loop, interval, starts)
        for turn in range(5):
            for one in loop.operations:
                for name, back in one.reads:
                    tick = starts[one.name] + interval * turn
                    self.assertIn((name, turn - back), list(spans.each_alive(tick)))

    def test_too_long(self):
        loop = Loop(Operation("a"), Operation("b", reads=(("a", 0),)))
        self.assertEqual(spans_of(loop, 2, {"a": 0, "b": 16})["a"], (1, 17))
        kind, error = error_of(spans_of, loop, 2, {"a": 0, "b": 17})
        self.assertIs(kind, TooMany)
        self.assertEqual(error.limit, 8)
        self.assertEqual(spans_of(Loop(Operation("a", reads=(("a", 3),))), 1, {"a": 0})["a"], (1, 4))

    def test_errors(self):
        for wrong in all_kinds():
            if not isinstance(wrong, Loop):
                self.assertIs(error_of(spans_of, wrong, 2, {})[0], InvalidLoop, wrong)
        for wrong in NO_INTERVALS:
            self.assertIs(error_of(spans_of, SUM, wrong, {})[0], InvalidNumber, wrong)
        for wrong in NO_STARTS + all_kinds():
            self.assertIs(error_of(spans_of, SUM, 2, wrong)[0], InvalidArgument, wrong)
        for interval, starts in ((1, {"item": 0, "sum": 1}), (2, {"item": 1, "sum": 1}),
                                 (2, {"item": 10 ** 6, "sum": 0})):
            self.assertFalse(is_fitting(SUM, interval, starts))
            self.assertIs(error_of(spans_of, SUM, interval, starts)[0], InvalidArgument)

    def test_which_comes_first(self):
        self.assertIs(error_of(spans_of, None, 0, None)[0], InvalidLoop)
        self.assertIs(error_of(spans_of, SUM, 0, None)[0], InvalidNumber)
        late = Loop(Operation("a"), Operation("b", reads=(("a", 0),)), Operation("c", reads=(("b", 0),)))
        self.assertIs(error_of(spans_of, late, 1, {"a": 0, "b": 99, "c": 98})[0], InvalidArgument)
        self.assertIs(error_of(spans_of, late, 1, {"a": 0, "b": 99, "c": 100})[0], TooMany)


if __name__ == "__main__":
    unittest.main()
