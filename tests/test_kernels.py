"""overrounds.code.kernels: kernels, what they start, and what they play."""

import unittest
from inspect import isgenerator
from random import Random

from overrounds.code import kernels
from overrounds.code.kernels import Kernel, kernel_of
from overrounds.errors import InvalidArgument, InvalidKernel, InvalidLoop, InvalidNumber, TooMany, UnknownName
from overrounds.file.spans import spans_of
from overrounds.file.turning import is_bases
from overrounds.loop.loops import Loop, Operation

from samples import (MEET, NO_INTERVALS, NO_STARTS, P, SUM, all_kinds, error_of, right_kernels, slow_run, slow_wrong,
                     some_kernels)

GOOD = kernel_of(SUM, 2, {"item": 0, "sum": 1}, 2, {"item": 0, "sum": 0})
ROWS = ((("item", 0, 0, ()),), (("sum", 0, 0, (1, 0)),))
ITEM, ADD = ROWS[0][0], ROWS[1][0]
DRAWN = some_kernels(100, 250)
RIGHT = right_kernels(300, 150)
NO_NUMBERS = (True, False, None, "1", (1,), [1], {}, 10 ** 12, 10 ** 39, SUM)


def meaning(name, turn, values):
    return (name, turn, values) if turn < 0 or turn > 2 else (name, turn, len(values), values[-1:])


class Made(unittest.TestCase):
    def test_constant(self):
        self.assertEqual(kernels.MAX_STAGES, 64)

    def test_properties(self):
        kernel = Kernel(SUM, 2, 2, ROWS)
        self.assertEqual((kernel.loop, kernel.interval, kernel.registers, kernel.rows), (SUM, 2, 2, ROWS))
        self.assertEqual((kernel.starts, kernel.bases, kernel.stages),
                         ({"item": 0, "sum": 1}, {"item": 0, "sum": 0}, 1))
        self.assertEqual(kernel, GOOD)
        for name in ("loop", "interval", "registers", "rows", "starts", "bases", "stages"):
            with self.assertRaises(AttributeError):
                setattr(kernel, name, 1)
        late = Kernel(SUM, 2, 3, ((("sum", 5, 2, (1, 0)),), (("item", 63, 2, ()),)))
        self.assertEqual((late.starts, late.bases, late.stages), ({"item": 127, "sum": 10}, {"item": 2, "sum": 1}, 64))
        self.assertEqual((list(late.starts), list(late.bases)), (["item", "sum"], ["item", "sum"]))

    def test_drawn_ones(self):
        for kernel in DRAWN:
            for slot, row in enumerate(kernel.rows):
                for name, stage, target, sources in row:
                    self.assertEqual(kernel.starts[name], slot + kernel.interval * stage)
                    self.assertEqual(kernel.bases[name], (target + stage) % kernel.registers)
                    self.assertEqual(kernel[name], (name, stage, target, sources))
            self.assertEqual(kernel.stages, 1 + max(one[1] for row in kernel.rows for one in row))
            self.assertEqual(len(kernel), len(kernel.loop))
            self.assertEqual(Kernel(kernel.loop, kernel.interval, kernel.registers, kernel.rows), kernel)

    def test_dicts_can_be_changed(self):
        kernel = Kernel(SUM, 2, 2, ROWS)
        kernel.starts["item"] = 9
        kernel.bases.clear()
        self.assertEqual((kernel.starts, kernel.bases), ({"item": 0, "sum": 1}, {"item": 0, "sum": 0}))
        values = kernel.played(2, meaning)
        values.clear()
        self.assertEqual(set(kernel.played(2, meaning)), {"item", "sum"})

    def test_items(self):
        self.assertEqual((GOOD["sum"], GOOD["item"], len(GOOD)), (ADD, ITEM, 2))
        for wrong in ["x", 0, *all_kinds()]:
            kind, error = error_of(lambda: GOOD[wrong])
            self.assertIs(kind, UnknownName, wrong)
            self.assertIs(error.wanted, wrong)
        for call in (iter, list, sorted):
            with self.assertRaises(TypeError):
                call(GOOD)
        with self.assertRaises(TypeError):
            GOOD["sum"] = ADD

    def test_texts(self):
        self.assertEqual(str(GOOD), "kernel of 2 rows, 1 stages, 2 registers")
        self.assertEqual(str(GOOD.later(5)), "kernel of 2 rows, 6 stages, 2 registers")

    def test_equal(self):
        self.assertTrue(GOOD == Kernel(SUM, 2, 2, ROWS))
        self.assertFalse(GOOD != Kernel(SUM, 2, 2, ROWS))
        other_loop = Loop(SUM["sum"], Operation("item"))
        for other in [Kernel(other_loop, 2, 2, ROWS), Kernel(SUM, 2, 3, ROWS), Kernel(SUM, 3, 2, (*ROWS, ())),
                      Kernel(SUM, 2, 2, (ROWS[0], (("sum", 0, 0, (0, 0)),))), GOOD.later(1), ROWS, *all_kinds()]:
            self.assertFalse(GOOD == other)
            self.assertTrue(GOOD != other)

    def test_wrong_rows(self):
        for wrong in [(), (ROWS[0],), (*ROWS, ()), ((), ()), (ROWS[0], ()), ((), ROWS[1]), (ROWS[0], ROWS[0]),
                      (ROWS[0] + ROWS[0], ROWS[1]), ((ADD, ITEM), ()), ((ITEM, ADD, ADD), ()), ((ITEM, ADD), (ADD,)),
                      list(ROWS), (list(ROWS[0]), ROWS[1]), (ITEM, ADD), ((list(ITEM),), ROWS[1]),
                      ((("x", 0, 0, ()),), ROWS[1]), ((("item", 0, 0, ()), ("x", 0, 0, ())), ROWS[1]),
                      (((None, 0, 0, ()),), ROWS[1]), (((["item"], 0, 0, ()),), ROWS[1]), ((("item", 0, 0),), ROWS[1]),
                      ((("item", 0, 0, (), ()),), ROWS[1]), ROWS[0], {0: ROWS[0], 1: ROWS[1]}, GOOD, *all_kinds()]:
            self.assertIs(error_of(Kernel, SUM, 2, 2, wrong)[0], InvalidKernel, wrong)
        self.assertIsNone(error_of(Kernel, SUM, 2, 2, ((ITEM, ADD), ()))[0])
        self.assertIsNone(error_of(Kernel, SUM, 1, 2, ((ITEM, ADD),))[0])

    def test_wrong_instructions(self):
        for stage, right in ((-1, False), (0, True), (63, True), (64, False), (True, False), (None, False),
                             ("0", False), (10 ** 39, False)):
            kind, _ = error_of(Kernel, SUM, 2, 2, (ROWS[0], (("sum", stage, 0, (1, 0)),)))
            self.assertIs(kind, None if right else InvalidKernel, stage)
        for place, right in ((-1, False), (0, True), (2, True), (3, False), (True, False), (False, False),
                             (None, False), ("0", False), ((0,), False), (10 ** 39, False)):
            for row in ((("sum", 0, place, (1, 0)),), (("sum", 0, 0, (place, 0)),), (("sum", 0, 0, (1, place)),)):
                kind, _ = error_of(Kernel, SUM, 2, 3, (ROWS[0], row))
                self.assertIs(kind, None if right else InvalidKernel, row)
        for sources in ((), (1,), (1, 0, 0), [1, 0], 1, None, {1: 0, 0: 1}):
            self.assertIs(error_of(Kernel, SUM, 2, 2, (ROWS[0], (("sum", 0, 0, sources),)))[0], InvalidKernel)
        self.assertIs(error_of(Kernel, SUM, 2, 2, ((("item", 0, 0, (0,)),), ROWS[1]))[0], InvalidKernel)

    def test_wrong_numbers_and_loops(self):
        for wrong in all_kinds() + [P]:
            if not isinstance(wrong, Loop):
                self.assertIs(error_of(Kernel, wrong, 0, 0, None)[0], InvalidLoop, wrong)
                self.assertIs(error_of(kernel_of, wrong, 0, None, 0, None)[0], InvalidLoop, wrong)
        for wrong in NO_INTERVALS:
            kind, error = error_of(Kernel, SUM, wrong, 0, None)
            self.assertIs(kind, InvalidNumber)
            self.assertIs(error.value, wrong)
            kind, error = error_of(kernel_of, SUM, wrong, None, 0, None)
            self.assertIs(kind, InvalidNumber)
            self.assertIs(error.value, wrong)
        for wrong in (0, 73, -1, *NO_NUMBERS):
            for call in (lambda: Kernel(SUM, 2, wrong, None),
                         lambda: kernel_of(SUM, 2, {"item": 0, "sum": 0}, wrong, 0)):
                kind, error = error_of(call)
                self.assertIs(kind, InvalidNumber, wrong)
                self.assertIs(error.value, wrong)
        self.assertIsNone(error_of(Kernel, SUM, 2, 72, ROWS)[0])
        self.assertIsNone(error_of(Kernel, SUM, 2, 1, (ROWS[0], (("sum", 0, 0, (0, 0)),)))[0])


class Of(unittest.TestCase):
    def test_where_values_stand(self):
        for kernel in DRAWN + RIGHT:
            made = kernel_of(kernel.loop, kernel.interval, kernel.starts, kernel.registers, kernel.bases)
            starts, bases, registers = made.starts, made.bases, made.registers
            self.assertEqual((starts, bases), (kernel.starts, kernel.bases))
            for slot, row in enumerate(made.rows):
                self.assertEqual([one[0] for one in row], sorted(one[0] for one in row))
                for name, stage, target, sources in row:
                    self.assertEqual((slot, stage), (starts[name] % made.interval, starts[name] // made.interval))
                    for turn in (0, 5):
                        number = turn + stage
                        self.assertEqual((target + number) % registers, (bases[name] + turn) % registers)
                        wanted = [(bases[source] + turn - distance) % registers
                                  for source, distance in made.loop[name].reads]
                        self.assertEqual([(place + number) % registers for place in sources], wanted)

    def test_starts_and_bases_that_are_none_are_let(self):
        self.assertEqual(kernel_of(SUM, 2, {"item": 5, "sum": 0}, 2, {"item": 0, "sum": 0}).starts,
                         {"item": 5, "sum": 0})
        self.assertEqual(kernel_of(SUM, 2, {"item": 0, "sum": 1}, 1, {"item": 0, "sum": 0}).bases,
                         {"item": 0, "sum": 0})

    def test_wrong_starts_and_bases(self):
        for wrong in NO_STARTS + all_kinds():
            self.assertIs(error_of(kernel_of, SUM, 2, wrong, 0, None)[0], InvalidArgument, wrong)
        good = {"item": 0, "sum": 1}
        for wrong in [{"item": 0}, {**good, "x": 0}, {"item": -1, "sum": 0}, {"item": 0, "sum": 2},
                      {"item": True, "sum": 0},
                      {"item": 0, "sum": None}, {"item": 0, "sum": "1"}, {"item": 0, 1: 1}, (0, 1), *all_kinds()]:
            self.assertIs(error_of(kernel_of, SUM, 2, good, 2, wrong)[0], InvalidArgument, wrong)

    def test_stages(self):
        bases = {"item": 0, "sum": 1}
        for tick, right in ((127, True), (128, False), (10 ** 6, False)):
            kind, value = error_of(kernel_of, SUM, 2, {"item": tick, "sum": 0}, 2, bases)
            self.assertIs(kind, None if right else TooMany)
            if right:
                self.assertEqual(value.stages, 64)
            else:
                self.assertEqual(value.limit, 64)
        far = {"item": 10 ** 6, "sum": 0}
        self.assertIs(error_of(kernel_of, SUM, 2, far, 2, {"item": 0, "sum": 2})[0], InvalidArgument)
        self.assertIs(error_of(kernel_of, SUM, 2, far, 0, {"item": 0, "sum": 2})[0], InvalidNumber)
        self.assertIs(error_of(kernel_of, SUM, 2, {**far, "sum": -1}, 0, bases)[0], InvalidArgument)
        self.assertIs(error_of(kernel_of, SUM, 33, {**far, "sum": -1}, 0, bases)[0], InvalidNumber)


class Runs(unittest.TestCase):
    def test_timeline_and_guards(self):
        for kernel in DRAWN[:40]:
            for rounds in (0, 1, 2, 7):
                wanted = sorted((tick + kernel.interval * turn, name, turn) for name, tick in kernel.starts.items()
                                for turn in range(rounds))
                self.assertEqual(list(kernel.timeline(rounds)), wanted)
                for number in range(rounds + kernel.stages + 2):
                    ticks = range(kernel.interval * number, kernel.interval * (number + 1))
                    stages = {kernel[name][1] for tick, name, _ in wanted if tick in ticks}
                    self.assertEqual(kernel.guards(rounds, number), tuple(sorted(stages)))
        self.assertTrue(isgenerator(GOOD.timeline(None)))

    def test_bounds(self):
        self.assertEqual((list(GOOD.timeline(0)), GOOD.guards(0, 0), GOOD.guards(0, 400)), ([], (), ()))
        self.assertEqual((len(list(GOOD.timeline(1))), len(list(GOOD.timeline(300)))), (2, 600))
        self.assertEqual([GOOD.guards(300, number) for number in (0, 299, 300, 400)], [(0,), (0,), (), ()])
        late = GOOD.later(63)
        self.assertEqual([late.guards(300, number) for number in (62, 63, 362, 363, 400)], [(), (63,), (63,), (), ()])
        for wrong in (301, -1, *NO_NUMBERS):
            for call in (lambda: list(GOOD.timeline(wrong)), lambda: GOOD.guards(wrong, -1)):
                kind, error = error_of(call)
                self.assertIs(kind, InvalidNumber, wrong)
                self.assertIs(error.value, wrong)
        for wrong in (401, -1, *NO_NUMBERS):
            kind, error = error_of(GOOD.guards, 300, wrong)
            self.assertIs(kind, InvalidNumber, wrong)
            self.assertIs(error.value, wrong)

    def test_later(self):
        for kernel in DRAWN[:60]:
            for passes in (0, 1, 3, 64 - kernel.stages):
                late = kernel.later(passes)
                self.assertEqual((late.stages, late.bases), (kernel.stages + passes, kernel.bases))
                self.assertEqual((late.loop, late.interval, late.registers),
                                 (kernel.loop, kernel.interval, kernel.registers))
                self.assertEqual(late.starts, {name: tick + passes * kernel.interval
                                               for name, tick in kernel.starts.items()})
                ticks = passes * kernel.interval
                self.assertEqual([(row[0] - ticks, *row[1:]) for row in slow_run(late, 4)], slow_run(kernel, 4))
            self.assertEqual(kernel.later(0), kernel)
            self.assertEqual(kernel.later(1).later(2), kernel.later(3))
            for passes in (65 - kernel.stages, 64, 10 ** 12 - 1):
                kind, error = error_of(kernel.later, passes)
                self.assertEqual((kind, error.limit), (TooMany, 64))
        for wrong in (-1, *NO_NUMBERS):
            kind, error = error_of(GOOD.later, wrong)
            self.assertIs(kind, InvalidNumber, wrong)
            self.assertIs(error.value, wrong)


class Played(unittest.TestCase):
    def test_right_ones_play_what_the_loop_plays(self):
        for kernel in RIGHT:
            for rounds in (0, 1, 2, 9):
                self.assertEqual(kernel.played(rounds, meaning), kernel.loop.played(rounds, meaning))
        self.assertEqual(GOOD.played(64, meaning), SUM.played(64, meaning))
        self.assertEqual(GOOD.played(0, meaning), {"item": (), "sum": ()})

    def test_against_the_readings(self):
        nothing = other_rounds = firsts = 0
        for kernel in DRAWN:
            for rounds in (1, 2, 6):
                made = {}
                read = {}
                for _, name, turn, index, value in slow_run(kernel, rounds):
                    read.setdefault((name, turn), []).append(value)
                for _, name, turn in kernel.timeline(rounds):
                    values = [None if value is None else made[value] if value[1] >= 0 else meaning(*value, ())
                              for value in read.get((name, turn), [])]
                    made[name, turn] = meaning(name, turn, tuple(values))
                wanted = {name: tuple(made[name, turn] for turn in range(rounds)) for name in kernel.loop}
                told = kernel.played(rounds, meaning)
                self.assertEqual(told, wanted)
                self.assertEqual(list(told), list(kernel.loop.names))
                found = [value for values in read.values() for value in values]
                nothing += None in found
                firsts += any(value is not None and value[1] < 0 for value in found)
                other_rounds += bool(slow_wrong(kernel, rounds))
        self.assertGreater(min(nothing, firsts, other_rounds), 30)

    def test_nothing_is_none(self):
        # Both stand in a register of their own, and neither reads it.
        loop = Loop(Operation("a", reads=(("a", 1), ("b", 0))), Operation("b"))
        kernel = Kernel(loop, 1, 9, ((("a", 2, 0, (5, 5)), ("b", 0, 0, ())),))
        seen = []
        kernel.played(1, lambda name, turn, values: seen.append((name, turn, values)))
        self.assertIn(("a", 0, (None, None)), seen)

    def test_bounds(self):
        for wrong in (65, -1, *NO_NUMBERS):
            kind, error = error_of(GOOD.played, wrong, meaning)
            self.assertIs(kind, InvalidNumber, wrong)
            self.assertIs(error.value, wrong)

    def test_meaning_hangs_on_name_and_round(self):
        draw = Random(5)
        kernel = RIGHT[0]
        table = {}

        def drawn(name, turn, values):
            return table.setdefault((name, turn, repr(values)), draw.random())
        self.assertEqual(kernel.played(20, drawn), kernel.loop.played(20, drawn))


class Right(unittest.TestCase):
    def test_bases_make_no_wrong_reading(self):
        for kernel in RIGHT:
            spans = spans_of(kernel.loop, kernel.interval, kernel.starts)
            self.assertTrue(is_bases(spans, kernel.registers, kernel.bases))
            for rounds in (1, 4, 2 * kernel.stages + kernel.registers):
                self.assertEqual(slow_wrong(kernel, rounds), [])
        self.assertGreater(len({kernel.registers for kernel in RIGHT}), 5)

    def test_starts_that_do_not_fit_a_reading(self):
        kernel = kernel_of(MEET, 3, {"u": 0, "v": 0}, 4, {"u": 0, "v": 2})
        self.assertEqual(slow_wrong(kernel, 1)[0][:4], (0, "v", 0, 0))


if __name__ == "__main__":
    unittest.main()
