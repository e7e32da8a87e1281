"""overrounds.file.turning: files that turn by one register each round."""

import unittest
from inspect import isgenerator
from itertools import permutations, product

from overrounds.errors import InvalidArgument, InvalidNumber, InvalidSpans, InvalidWiring, TooMany
from overrounds.file import turning
from overrounds.file.spans import Spans
from overrounds.file.turning import (bases_of, each_bases, held, is_bases, is_turning_paper, least_turning, trip,
                                     turning_paper, wiring_of)
from overrounds.file.wirings import Wiring, fewest_cycles

from samples import all_kinds, error_of, slow_alive, some_spans

TWO = Spans(2, {"a": (0, 2), "b": (1, 3)})
FIVE = Spans(5, {"a": (0, 2), "b": (1, 3), "c": (2, 4), "d": (3, 5), "e": (4, 6)})
PAIR = Spans(3, {"p": (0, 2), "q": (0, 2)})
LONG = Spans(1, {"a": (0, 8)})
SPANS = some_spans(4000, 120, 4)
HIGH = 10 ** 12 - 1


def slow_is_bases(spans, registers, bases):
    """Whether values that are alive in one tick stand in different registers, tick by tick."""
    for tick in range(registers * spans.interval):
        places = [(bases[name] + turn) % registers for name, turn in slow_alive(spans.rows, spans.interval, tick)]
        if len(places) != len(set(places)):
            return False
    return True


def covers_once(spans, registers, bases):
    """Whether no place of the circle is covered twice, place by place."""
    circle, seen = registers * spans.interval, []
    for name, (begin, end) in spans.rows.items():
        first = begin - spans.interval * bases[name]
        seen += [place % circle for place in range(first, first + end - begin)]
    return len(seen) == len(set(seen))


def all_bases(spans, registers, first=None):
    """All dicts of integers from 0 to registers - 1 that are bases, ascending."""
    ways = [range(registers) if first is None or at else (first,) for at in range(len(spans))]
    dicts = [dict(zip(spans.names, row)) for row in product(*ways)]
    return [bases for bases in dicts if slow_is_bases(spans, registers, bases)]


class Bases(unittest.TestCase):
    def test_constants(self):
        self.assertEqual((turning.MAX_FILE, turning.MAX_LISTED), (72, 6))

    def test_against_each_tick_and_each_place(self):
        seen = {True: 0, False: 0}
        for spans in SPANS:
            for registers in range(1, 4):
                for row in product(range(registers), repeat=len(spans)):
                    bases = dict(zip(spans.names, row))
                    wanted = slow_is_bases(spans, registers, bases)
                    seen[wanted] += 1
                    self.assertEqual(covers_once(spans, registers, bases), wanted)
                    self.assertIs(is_bases(spans, registers, bases), wanted, (spans.rows, registers, bases))
        self.assertGreater(min(seen.values()), 40)

    def test_one_name_with_itself(self):
        self.assertEqual([registers for registers in range(1, 12) if is_bases(LONG, registers, {"a": 0})],
                         [8, 9, 10, 11])
        self.assertIs(is_bases(Spans(3, {"a": (0, 6)}), 2, {"a": 1}), True)
        self.assertIs(is_bases(Spans(3, {"a": (0, 7)}), 2, {"a": 1}), False)

    def test_two_names(self):
        self.assertEqual([base for base in range(4) if is_bases(PAIR, 4, {"p": 1, "q": base})], [0, 2, 3])
        self.assertEqual([base for base in range(3) if is_bases(TWO, 3, {"a": 0, "b": base})], [2])
        self.assertEqual([base for base in range(2) if is_bases(TWO, 2, {"a": 0, "b": base})], [])

    def test_below_zero_and_far_away(self):
        for ticks in (-1, -7, -10 ** 6, 10 ** 6, 10 ** 11, -10 ** 11, 5 * 10 ** 11 + 3):
            there = TWO + ticks
            found = [bases for bases in (dict(zip("ab", row)) for row in product(range(3), repeat=2))
                     if is_bases(there, 3, bases)]
            self.assertEqual(found, [{"a": 0, "b": 2}, {"a": 1, "b": 0}, {"a": 2, "b": 1}])
        apart = Spans(2, {"a": (-10 ** 11, 2 - 10 ** 11), "b": (10 ** 11 + 1, 10 ** 11 + 3)})
        self.assertEqual(len(all_bases(Spans(2, {"a": (0, 2), "b": (1, 3)}), 3)), 3)
        self.assertEqual(sum(is_bases(apart, 3, {"a": one, "b": two}) for one in range(3) for two in range(3)), 3)

    def test_what_is_none(self):
        good = {"a": 0, "b": 2}
        self.assertIs(is_bases(TWO, 3, good), True)
        for wrong in [{"a": 0}, {"b": 2}, {**good, "c": 1}, {"a": 0, "c": 2}, {"a": -1, "b": 1}, {"a": 0, "b": -1},
                      {"a": 0, "b": 3}, {"a": 1, "b": 3}, {"a": True, "b": 0}, {"a": False, "b": 2}, {"a": 0, "b": "2"},
                      {"a": 0, "b": None}, {"a": 0, "b": (2,)}, {"a": [0], "b": 2}, {"a": 0, "b": 2 + 3 * 10 ** 12},
                      {"a": 0, 1: 2}, {"a": 0, ("b",): 2}, [("a", 0), ("b", 2)], (0, 2), TWO, *all_kinds()]:
            self.assertIs(is_bases(TWO, 3, wrong), False, wrong)
        self.assertIs(is_bases(TWO, 72, {"a": 0, "b": 71}), True)
        self.assertIs(is_bases(TWO, 72, {"a": 0, "b": 72}), False)
        self.assertIs(is_bases(TWO, 3, {"b": 2, "a": 0}), True)


class Papers(unittest.TestCase):
    def test_fewer_as_many_and_more(self):
        forms = set()
        for spans in SPANS + some_spans(4200, 40):
            most = spans.most
            for registers in sorted({1, max(1, most - 1), most, most + 1, most + 3, 72}):
                paper = turning_paper(spans, registers)
                wanted = "alive" if registers < most else "bases"
                if registers == most and len(spans.pieces) > 1:
                    wanted = "apart"
                self.assertEqual(paper[0], wanted)
                self.assertIs(is_turning_paper(spans, registers, paper), True, (spans.rows, registers, paper))
                forms.add((wanted, registers - most))
                if wanted == "bases":
                    self.assertEqual(list(paper[1]), list(spans.names))
                    self.assertTrue(covers_once(spans, registers, paper[1]))
            least = least_turning(spans)
            self.assertEqual(least, most + (len(spans.pieces) > 1))
            self.assertEqual(turning_paper(spans, least)[0], "bases")
            self.assertNotEqual(turning_paper(spans, max(1, least - 1))[0] if least > 1 else None, "bases")
        self.assertTrue({("bases", 0), ("apart", 0), ("bases", 1), ("alive", -1)} <= forms)

    def test_there_are_bases_just_from_the_least_number_on(self):
        seen = {0: 0, 1: 0}
        for spans in [one for one in SPANS if one.most <= 4 and len(one) <= 3]:
            for registers in range(1, spans.most + 2):
                found = bool(all_bases(spans, registers, 0))
                self.assertEqual(found, registers >= least_turning(spans))
            seen[least_turning(spans) - spans.most] += 1
        self.assertGreater(min(seen.values()), 5)

    def test_just_one_form(self):
        for spans in SPANS[:40]:
            parts = [names for many in range(len(spans) + 1) for names in permutations(spans.names, many)]
            for registers in range(1, spans.most + 3):
                papers = [("alive", slot) for slot in range(spans.interval)] + [("apart", names) for names in parts]
                papers += [("bases", dict(zip(spans.names, row)))
                           for row in product(range(registers), repeat=len(spans))][:300]
                papers.append(turning_paper(spans, registers))
                forms = {paper[0] for paper in papers if is_turning_paper(spans, registers, paper)}
                self.assertEqual(forms, {turning_paper(spans, registers)[0]})

    def test_names_that_are_apart(self):
        self.assertEqual([is_turning_paper(TWO, 2, ("apart", (name,))) for name in "ab"], [True, True])
        for wrong in [(), ("a", "b"), ("a", "a"), ("b", "a"), ("c",), ("a", "c"), ["a"], "a", None, (1,), (("a",),),
                      (["a"],), {"a": 0}, *all_kinds()]:
            if wrong != ("a",):
                self.assertIs(is_turning_paper(TWO, 2, ("apart", wrong)), False, wrong)
        four = Spans(2, {"a": (0, 2), "b": (1, 3), "c": (0, 4), "d": (1, 5)})
        self.assertEqual((four.most, len(four.pieces)), (6, 2))
        self.assertEqual(four.pieces, (("a", "c"), ("b", "d")))
        for names, wanted in ((("a", "c"), True), (("b", "d"), True), (("c", "a"), False), (("a",), False),
                              (("a", "a", "c"), False), (("a", "b"), False)):
            self.assertIs(is_turning_paper(four, 6, ("apart", names)), wanted)
            for registers in (1, 5, 7, 72):
                self.assertIs(is_turning_paper(four, registers, ("apart", names)), False)
        for names in ((), ("a",), ("a", "c"), ("a", "b", "c", "d", "e")):
            self.assertIs(is_turning_paper(FIVE, 2, ("apart", names)), False)

    def test_values_near_right_ones(self):
        good = {"a": 0, "b": 2}
        self.assertIs(is_turning_paper(TWO, 3, ("bases", good)), True)
        for wrong in [("bases", good, 0), ["bases", good], ("Bases", good), ("bases", {"a": 0, "b": 1}), good,
                      ("bases",),
                      ("bases", (0, 2)), ("alive", 0), ("bases", {**good, "a": False}), None, *all_kinds()]:
            self.assertIs(is_turning_paper(TWO, 3, wrong), False, wrong)
        spans = Spans(3, {"a": (0, 2), "b": (1, 3)})
        self.assertEqual([slot for slot in range(-3, 7) if is_turning_paper(spans, 1, ("alive", slot))], [1])
        for wrong in (True, None, "1", (1,), 4, -2, 10 ** 39, *all_kinds()):
            self.assertIs(is_turning_paper(spans, 1, ("alive", wrong)), False, wrong)

    def test_numbers_of_registers(self):
        calls = (turning_paper, lambda *told: is_turning_paper(*told, None), lambda *told: is_bases(*told, None),
                 lambda *told: wiring_of(*told, None), lambda *told: held(*told, None, None), each_bases)
        for call in calls:
            for wrong in (0, 73, -1, True, False, None, "1", (1,), [1], {}, 10 ** 12, 10 ** 39, TWO):
                kind, error = error_of(call, TWO, wrong)
                self.assertIs(kind, InvalidNumber, wrong)
                self.assertIs(error.value, wrong)
            for wrong in all_kinds() + [TWO.rows]:
                self.assertIs(error_of(call, wrong, 0)[0], InvalidSpans, wrong)
        self.assertEqual((turning_paper(TWO, 1)[0], turning_paper(TWO, 72)[0]), ("alive", "bases"))
        for wrong in all_kinds():
            self.assertIs(error_of(least_turning, wrong)[0], InvalidSpans, wrong)
            self.assertIs(error_of(trip, wrong, None)[0], InvalidSpans, wrong)

    def test_pieces_alone(self):
        for spans in SPANS:
            for piece in spans.pieces:
                part = spans & piece
                self.assertEqual(least_turning(part), part.most)


class Trips(unittest.TestCase):
    def test_trips(self):
        for spans in SPANS[:60]:
            sizes = []
            for order in permutations(spans.names):
                wiring = trip(spans, order)
                self.assertEqual([wiring[name][0] for name in order], list(order[1:] + order[:1]))
                self.assertLess(max(wait for _, wait in wiring.follows.values()), spans.interval)
                self.assertEqual(len(wiring), 1)
                self.assertTrue(covers_once(spans, wiring.registers, bases_of(wiring)))
                sizes.append(wiring.registers)
            self.assertEqual(min(sizes), least_turning(spans))

    def test_the_least_registers_of_an_order(self):
        for spans in [one for one in SPANS if one.most <= 3 and len(one) == 3][:12]:
            for order in permutations(spans.names):
                needed = trip(spans, order).registers
                for registers in range(1, needed + 1):
                    wirings = [wiring_of(spans, registers, bases) for bases in all_bases(spans, registers, 0)]
                    there = any([wiring[name][0] for name in order] == list(order[1:] + order[:1])
                                for wiring in wirings)
                    self.assertEqual(there, registers == needed)

    def test_long_trips(self):
        spans = Spans(32, {name: (at, at + 256) for at, name in enumerate("abcdefgh")})
        self.assertEqual(trip(spans, tuple("abcdefgh")).registers, 65)
        self.assertEqual(trip(spans, tuple("hgfedcba")).registers, 71)
        self.assertEqual(least_turning(spans), 65)

    def test_what_is_no_order(self):
        for wrong in [(), ("a",), ("a", "a"), ("a", "b", "a"), ("a", "c"), ["a", "b"], "ab", None, ("a", None),
                      ("a", ["b"]), ("a", 1), {"a": "b", "b": "a"}, TWO, *all_kinds()]:
            self.assertIs(error_of(trip, TWO, wrong)[0], InvalidArgument, wrong)
        self.assertEqual(trip(LONG, ("a",)).follows, {"a": ("a", 0)})

    def test_bases_of(self):
        turn = trip(FIVE, ("a", "c", "e", "b", "d"))
        self.assertEqual([bases_of(turn, base=base)["a"] for base in (0, 1)], [0, 1])
        for wrong in (2, -1, True, False, None, "0", (0,), 10 ** 39):
            kind, error = error_of(bases_of, turn, base=wrong)
            self.assertIs(kind, InvalidNumber)
            self.assertIs(error.value, wrong)
        alone = Wiring(PAIR, {"p": ("p", 1), "q": ("q", 1)})
        self.assertIs(error_of(bases_of, alone)[0], InvalidArgument)
        self.assertIs(error_of(bases_of, alone, base=1)[0], InvalidArgument)
        self.assertIs(error_of(bases_of, alone, base=2)[0], InvalidNumber)
        for wrong in all_kinds() + [TWO, turn.follows]:
            self.assertIs(error_of(bases_of, wrong, base=-1)[0], InvalidWiring, wrong)

    def test_there_and_back(self):
        for spans in SPANS[:60]:
            for registers in (least_turning(spans), least_turning(spans) + 2):
                bases = turning_paper(spans, registers)[1]
                wiring = wiring_of(spans, registers, bases)
                self.assertEqual((wiring.registers, len(wiring), wiring.spans), (registers, 1, spans))
                first = spans.names[0]
                self.assertEqual(bases_of(wiring, base=bases[first]), bases)
                for base in range(registers):
                    moved = bases_of(wiring, base=base)
                    self.assertEqual(moved[first], base)
                    self.assertEqual({(moved[name] - bases[name]) % registers for name in spans.names},
                                     {(base - bases[first]) % registers})
                    self.assertTrue(is_bases(spans, registers, moved))
                    self.assertEqual(wiring_of(spans, registers, moved), wiring)

    def test_all_bases_come_from_wirings_of_one_cycle(self):
        for spans in [one for one in SPANS if one.most <= 3 and len(one) <= 3][:25]:
            for registers in (spans.most, spans.most + 1):
                found = all_bases(spans, registers)
                wirings = []
                for bases in found:
                    wiring = wiring_of(spans, registers, bases)
                    if wiring not in wirings:
                        wirings.append(wiring)
                self.assertEqual(len(found), registers * len(wirings))
                self.assertEqual(bool(found), fewest_cycles(spans, registers) == 1)

    def test_no_bases(self):
        for wrong in [{"a": 0, "b": 0}, {"a": 0}, None, {"a": 0, "b": 3}, {"a": True, "b": 0}, *all_kinds()]:
            self.assertIs(error_of(wiring_of, TWO, 3, wrong)[0], InvalidArgument, wrong)
            self.assertIs(error_of(held, TWO, 3, wrong, None)[0], InvalidArgument, wrong)


class Held(unittest.TestCase):
    def test_tick_by_tick(self):
        for spans in SPANS[:40]:
            registers = least_turning(spans) + 1
            bases = turning_paper(spans, registers)[1]
            for tick in [*range(-9, 30), 10 ** 6 + 3, -10 ** 6 - 1]:
                row = held(spans, registers, bases, tick)
                self.assertEqual((type(row), len(row)), (tuple, registers))
                alive = slow_alive(spans.rows, spans.interval, tick)
                self.assertEqual(sorted(value for value in row if value is not None), alive)
                for place, value in enumerate(row):
                    if value is not None:
                        self.assertEqual((bases[value[0]] + value[1]) % registers, place)

    def test_far_away(self):
        for tick in (HIGH, -HIGH):
            row = held(TWO, 3, {"a": 0, "b": 2}, tick)
            self.assertEqual(len([value for value in row if value is not None]), 2)
            self.assertEqual(sorted(value for value in row if value), list(TWO.each_alive(tick)))

    def test_no_ticks(self):
        for wrong in (True, None, "1", (1,), 10 ** 12, -10 ** 12, TWO):
            kind, error = error_of(held, TWO, 3, {"a": 0, "b": 2}, wrong)
            self.assertIs(kind, InvalidNumber)
            self.assertIs(error.value, wrong)


class Each(unittest.TestCase):
    def test_against_all_dicts(self):
        many = 0
        for spans in SPANS:
            for registers in range(1, 5):
                if registers ** len(spans) > 64:
                    continue
                wanted = all_bases(spans, registers, 0)
                told = list(each_bases(spans, registers))
                self.assertEqual(told, wanted)
                self.assertTrue(all(list(one) == list(spans.names) for one in told))
                rows = [tuple(one.values()) for one in told]
                self.assertEqual(rows, sorted(set(rows)))
                many += len(told)
        self.assertGreater(many, 200)

    def test_six_names_and_seven(self):
        six = Spans(2, {name: (0, 1) for name in "abcdef"})
        self.assertEqual(len(list(each_bases(six, 6))), 120)
        self.assertEqual(next(each_bases(six, 72)), {name: at for at, name in enumerate("abcdef")})
        seven = Spans(2, {name: (0, 1) for name in "abcdefg"})
        kind, error = error_of(each_bases, seven, 7)
        self.assertEqual((kind, error.limit), (TooMany, 6))
        self.assertIs(error_of(each_bases, seven, 0)[0], InvalidNumber)
        self.assertEqual(list(each_bases(six, 5)), [])
        self.assertTrue(isgenerator(each_bases(None, None)))

    def test_what_is_told_can_be_changed(self):
        made = each_bases(TWO, 4)
        first = next(made)
        first.clear()
        self.assertEqual([*made], list(each_bases(TWO, 4))[1:])


if __name__ == "__main__":
    unittest.main()
