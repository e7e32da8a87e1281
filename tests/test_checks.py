"""overrounds.code.checks: whether a kernel does what the plain loop does."""

import unittest

from overrounds.code.checks import (does_right, enough_rounds, is_wrong_reading, least_wrong, long_readings,
                                    wrong_reading)
from overrounds.code.kernels import Kernel, kernel_of
from overrounds.errors import InvalidKernel, InvalidNumber
from overrounds.file.spans import spans_of
from overrounds.file.turning import is_bases
from overrounds.loop.loops import Loop, Operation
from overrounds.plan.plans import is_fitting

from samples import SUM, all_kinds, error_of, right_kernels, slow_run, slow_wrong, some_kernels

GOOD = kernel_of(SUM, 2, {"item": 0, "sum": 1}, 2, {"item": 0, "sum": 0})
BAD = kernel_of(SUM, 2, {"item": 0, "sum": 1}, 1, {"item": 0, "sum": 0})
DRAWN = some_kernels(5000, 250)
RIGHT = right_kernels(5600, 100)
# So many rounds begin before the value of a is read that in long runs its register is written again.
LATE = kernel_of(Loop(Operation("a"), Operation("b", reads=(("a", 0),))), 1, {"a": 0, "b": 9}, 8, {"a": 0, "b": 0})
NO_NUMBERS = (True, False, None, "1", (1,), [1], {}, 10 ** 12, 10 ** 39, SUM)


def meaning(name, turn, values):
    return (name, turn, values) if turn < 2 else (name, turn, [value and value[:2] for value in values])


class Readings(unittest.TestCase):
    def test_against_a_file_that_is_written_tick_by_tick(self):
        seen = 0
        for kernel in DRAWN + RIGHT:
            enough = 2 * kernel.stages + kernel.registers
            for rounds in (0, 1, 2, 3, enough):
                wrong = slow_wrong(kernel, rounds)
                self.assertEqual(wrong_reading(kernel, rounds), wrong[0] if wrong else None)
                for reading in wrong:
                    self.assertIs(is_wrong_reading(kernel, rounds, reading), True)
                seen += bool(wrong)
        self.assertGreater(seen, 300)

    def test_long_runs(self):
        for kernel in (GOOD, BAD, LATE, *DRAWN[:6]):
            wrong = slow_wrong(kernel, 300)
            self.assertEqual(wrong_reading(kernel, 300), wrong[0] if wrong else None)

    def test_no_other_value_is_a_wrong_reading(self):
        for kernel in DRAWN[:25] + RIGHT[:5]:
            rounds = 4
            wrong = slow_wrong(kernel, rounds)
            finds = [None] + [(name, turn) for name in kernel.loop for turn in range(-3, rounds)]
            for tick, name, turn, index, value in slow_run(kernel, rounds):
                for told in finds:
                    reading = (tick, name, turn, index, told)
                    self.assertIs(is_wrong_reading(kernel, rounds, reading), reading in wrong)

    def test_values_near_wrong_readings(self):
        tick, name, turn, index, found = good = (1, "sum", 0, 1, ("sum", -1))
        self.assertEqual(wrong_reading(BAD, 1), good)
        self.assertIs(is_wrong_reading(BAD, 1, good), True)
        for wrong in [(0, *good[1:]), (2, *good[1:]), (True, *good[1:]), (tick, "item", 0, 1, found),
                      (tick, "x", 0, 1, found), (tick, name, 1, 1, found), (tick, name, -1, 1, found),
                      (tick, name, False, 1, found), (tick, name, 0, 0, found), (tick, name, 0, 2, found),
                      (tick, name, 0, -1, found), (tick, name, 0, True, found), (*good[:4], None),
                      (*good[:4], ("item", 0)), (*good[:4], ["sum", -1]), (*good[:4], ("sum", -2)),
                      (*good[:4], ("sum",)), (*good[:4], "sum"), list(good), good[:4], (*good, 0),
                      (tick, None, 0, 1, found),
                      (tick, ["sum"], 0, 1, found), (tick, name, None, 1, found), (10 ** 39, *good[1:]), None,
                      *all_kinds()]:
            self.assertIs(is_wrong_reading(BAD, 1, wrong), False, wrong)
        self.assertIs(is_wrong_reading(BAD, 0, good), False)
        self.assertIs(is_wrong_reading(BAD, 300, good), True)
        self.assertIs(is_wrong_reading(GOOD, 1, (1, "sum", 0, 1, ("item", 0))), False)

    def test_true_is_no_round(self):
        wrong = [one for one in slow_wrong(BAD, 9) if one[4][1] in (0, 1)]
        for tick, name, turn, index, value in wrong:
            self.assertIs(is_wrong_reading(BAD, 9, (tick, name, turn, index, value)), True)
            self.assertIs(is_wrong_reading(BAD, 9, (tick, name, turn, index, (value[0], bool(value[1])))), False)
        self.assertEqual(len(wrong), 2)

    def test_the_greater_name_remains(self):
        loop = Loop(Operation("a"), Operation("b"), Operation("c", reads=(("a", 0),)))
        kernel = Kernel(loop, 1, 3, ((("a", 0, 0, ()), ("b", 0, 0, ()), ("c", 1, 1, (2,))),))
        self.assertEqual((slow_wrong(kernel, 1)[0], wrong_reading(kernel, 1)), ((1, "c", 0, 0, ("b", 0)),) * 2)
        other = Loop(Operation("b"), Operation("a"), Operation("c", reads=(("b", 0),)))
        kernel = Kernel(other, 1, 3, ((("a", 0, 0, ()), ("b", 0, 0, ()), ("c", 1, 1, (2,))),))
        self.assertEqual((slow_wrong(kernel, 1), wrong_reading(kernel, 1)), ([], None))

    def test_a_start_ahead_of_what_is_read(self):
        loop = Loop(Operation("a"), Operation("b", reads=(("a", 0),)))
        kernel = kernel_of(loop, 2, {"a": 5, "b": 0}, 72, {"a": 0, "b": 20})
        self.assertFalse(is_fitting(loop, 2, kernel.starts))
        self.assertEqual(least_wrong(kernel), (1, (0, "b", 0, 0, None)))

    def test_starts_that_do_not_fit_are_wrong_in_one_round(self):
        seen = 0
        for kernel in DRAWN:
            starts, loop = kernel.starts, kernel.loop
            late = [name for name, reader, distance in loop.readings
                    if starts[reader] + kernel.interval * distance < starts[name] + loop[name].ticks]
            if late:
                self.assertEqual(least_wrong(kernel)[0], 1)
                seen += 1
        self.assertGreater(seen, 100)


class Wrong(unittest.TestCase):
    def test_least_wrong(self):
        leasts = set()
        for kernel in DRAWN + RIGHT + [LATE]:
            enough = enough_rounds(kernel)
            self.assertEqual(enough, 2 * kernel.stages + kernel.registers)
            wrong = [slow_wrong(kernel, rounds) for rounds in range(enough + 3)]
            there = [rounds for rounds, told in enumerate(wrong) if told]
            self.assertEqual(least_wrong(kernel), (there[0], wrong[there[0]][0]) if there else None)
            self.assertEqual(there, list(range(there[0], enough + 3)) if there else [])
            self.assertTrue(not there or there[0] <= enough)
            self.assertIs(does_right(kernel), not there)
            leasts.add(there[0] if there else None)
        self.assertTrue({None, 1, 6} <= leasts)

    def test_what_is_wrong_stays_wrong(self):
        for kernel in DRAWN[:80]:
            wrong = [{one[:4] for one in slow_wrong(kernel, rounds)} for rounds in range(12)]
            for fewer, more in zip(wrong, wrong[1:]):
                self.assertTrue(fewer <= more)

    def test_only_long_runs_go_wrong(self):
        self.assertEqual([wrong_reading(LATE, rounds) for rounds in range(6)], [None] * 6)
        self.assertEqual(least_wrong(LATE), (6, (14, "b", 5, 0, ("b", -3))))
        self.assertIs(does_right(LATE), False)
        # With more rounds an earlier reading goes wrong, too.
        self.assertEqual(wrong_reading(LATE, 8)[2], 5)
        self.assertEqual(wrong_reading(LATE, 9), (9, "b", 0, 0, ("a", 8)))

    def test_long_readings(self):
        for kernel in DRAWN + RIGHT:
            readings = long_readings(kernel)
            self.assertEqual(list(readings), [(one.name, index) for one in kernel.loop.operations
                                              for index in range(len(one.reads))])
            first = kernel.stages + kernel.registers
            for rounds in (first + kernel.stages, first + kernel.stages + 3):
                for tick, name, turn, index, value in slow_run(kernel, rounds):
                    if first <= turn <= rounds - kernel.stages:
                        source, distance = readings[name, index]
                        self.assertEqual(value, (source, turn - distance))
            self.assertIs(does_right(kernel), all(readings[one.name, index] == pair for one in kernel.loop.operations
                                                  for index, pair in enumerate(one.reads)))
        readings = long_readings(GOOD)
        readings.clear()
        self.assertEqual(long_readings(GOOD), {("sum", 0): ("sum", 1), ("sum", 1): ("item", 0)})

    def test_distances_below_zero(self):
        self.assertEqual(long_readings(LATE), {("b", 0): ("a", -8)})

    def test_right_kernels_of_bases_that_are_none(self):
        # The value of b is never read, so it may be overwritten as soon as it is written.
        loop = Loop(Operation("a"), Operation("b"), Operation("c", reads=(("a", 0),)))
        starts = {"a": 0, "b": 3, "c": 1}
        spans = spans_of(loop, 2, starts)
        found = [kernel_of(loop, 2, starts, 2, {"a": one, "b": two, "c": three})
                 for one in range(2) for two in range(2) for three in range(2)]
        others = [one for one in found if does_right(one) and not is_bases(spans, 2, one.bases)]
        self.assertTrue(others)
        for one in others:
            self.assertEqual(slow_wrong(one, 9), [])
            self.assertEqual(one.played(9, meaning), loop.played(9, meaning))

    def test_right_ones_play_what_the_loop_plays_and_wrong_ones_do_not(self):
        for kernel in DRAWN + RIGHT:
            rounds = min(enough_rounds(kernel), 64)
            same = kernel.played(rounds, lambda *told: told) == kernel.loop.played(rounds, lambda *told: told)
            if rounds == enough_rounds(kernel):
                self.assertIs(does_right(kernel), same)


class Errors(unittest.TestCase):
    def test_no_kernels(self):
        for wrong in all_kinds() + [GOOD.rows]:
            for call in (lambda: wrong_reading(wrong, -1), lambda: is_wrong_reading(wrong, -1, None),
                         lambda: long_readings(wrong), lambda: does_right(wrong), lambda: enough_rounds(wrong),
                         lambda: least_wrong(wrong)):
                self.assertIs(error_of(call)[0], InvalidKernel, wrong)

    def test_rounds(self):
        for wrong in (301, -1, *NO_NUMBERS):
            for call in (lambda: wrong_reading(GOOD, wrong), lambda: is_wrong_reading(GOOD, wrong, None)):
                kind, error = error_of(call)
                self.assertIs(kind, InvalidNumber, wrong)
                self.assertIs(error.value, wrong)
        self.assertEqual((wrong_reading(BAD, 0), wrong_reading(GOOD, 300), wrong_reading(BAD, 300)[:2]),
                         (None, None, (1, "sum")))

    def test_many_stages(self):
        late = LATE.later(54)
        self.assertEqual((late.stages, enough_rounds(late)), (64, 136))
        self.assertEqual(least_wrong(late), (6, (68, "b", 5, 0, ("b", -3))))


if __name__ == "__main__":
    unittest.main()
