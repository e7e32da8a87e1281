"""Promises over the whole program: from a loop to a kernel, and back from its texts."""

import unittest
from copy import deepcopy
from inspect import isgenerator
from random import Random

from overrounds.change.changes import completed, fewest_moved, is_easier, least_machines
from overrounds.code.checks import does_right, least_wrong, long_readings
from overrounds.code.kernels import Kernel, kernel_of
from overrounds.errors import InvalidArgument
from overrounds.file.spans import Spans, spans_of
from overrounds.file.still import each_places, is_still_paper, lasting_places, least_still, still_paper
from overrounds.file.turning import (bases_of, each_bases, held, is_turning_paper, least_turning, trip, turning_paper,
                                     wiring_of)
from overrounds.file.wirings import Wiring, wiring_paper
from overrounds.flow.sums import is_sum_paper, least_sums, registers_bound, sum_paper
from overrounds.live.desk import Desk
from overrounds.loop.loops import Loop, Operation
from overrounds.plan.plans import Plan, is_plan
from overrounds.rings.ratios import is_ratio_paper, ratio_paper
from overrounds.rings.starts import is_start_paper, start_paper
from overrounds.text.formats import (read_bases, read_loop, read_machine, read_plan, read_spans, read_tree, write_bases,
                                     write_loop, write_machine, write_plan, write_spans, write_tree)
from overrounds.units.least import is_least_paper, least_interval, least_paper
from overrounds.units.trees import has_plan

from samples import MEET, P, SUM, error_of, machine_for, some_loops

LOOPS = [loop for loop in some_loops(700, 30000) if len(loop.asking) <= 4]
TWO = Spans(2, {"a": (0, 2), "b": (1, 3)})


def meaning(name, turn, values):
    """What hangs on the name, on the round and on all values."""
    return hash((name, turn, values)) % 1000003


class FromALoop(unittest.TestCase):
    def test_the_least_interval_is_shown_by_papers(self):
        for loop in LOOPS:
            machine = machine_for(loop)
            least, starts, trees = paper = least_paper(loop, machine)
            self.assertIs(is_least_paper(loop, machine, paper), True)
            self.assertEqual((least, len(trees)), (least_interval(loop, machine), least - 1))
            self.assertTrue(is_plan(loop, machine, least, starts))
            # As for each interval exactly one of two papers exists, no other interval is shown.
            for other in (least - 1, least + 1):
                self.assertIs(is_least_paper(loop, machine, (other, starts, trees)), False)
            self.assertTrue(has_plan(loop, machine, 32))
            for interval in (1, least, 32):
                self.assertIs(is_start_paper(loop, interval, start_paper(loop, interval)), True)
                self.assertIs(is_sum_paper(loop, interval, sum_paper(loop, interval)), True)
            self.assertIs(is_ratio_paper(loop, ratio_paper(loop)), True)

    def test_plan_spans_bases_and_kernel_play_what_the_loop_plays(self):
        sizes = set()
        for loop in LOOPS:
            machine = machine_for(loop)
            least, starts, _ = least_paper(loop, machine)
            plan = Plan(loop, machine, least, starts).earliest()
            kind, spans = error_of(spans_of, loop, least, plan.starts)
            if kind is not None:
                continue
            registers = least_turning(spans)
            self.assertGreaterEqual(registers, registers_bound(loop, least))
            self.assertIn(registers - spans.most, (0, 1))
            for many in range(max(1, registers - 2), registers + 2):
                paper = turning_paper(spans, many)
                self.assertIs(is_turning_paper(spans, many, paper), True)
                self.assertEqual(paper[0] == "bases", many >= registers)
            bases = turning_paper(spans, registers)[1]
            kernel = kernel_of(loop, least, plan.starts, registers, bases)
            self.assertTrue(does_right(kernel))
            self.assertIsNone(least_wrong(kernel))
            for rounds in (0, 1, 3, 17):
                self.assertEqual(kernel.played(rounds, meaning), loop.played(rounds, meaning))
            self.assertEqual(kernel.later(3).played(9, meaning), loop.played(9, meaning))
            sizes.add(registers - spans.most)
        self.assertEqual(sizes, {0, 1})

    def test_it_is_decided_for_every_kernel(self):
        draw, kinds = Random(3), set()
        for loop in LOOPS[:150]:
            interval, registers = draw.randint(1, 4), draw.randint(1, 6)
            starts = {name: draw.randint(0, 12) for name in loop}
            bases = {name: draw.randint(0, registers - 1) for name in loop}
            kernel = kernel_of(loop, interval, starts, registers, bases)
            wrong = least_wrong(kernel)
            same = [kernel.played(rounds, lambda *told: told) == loop.played(rounds, lambda *told: told)
                    for rounds in range(2 * kernel.stages + kernel.registers + 1)]
            self.assertEqual(same, [wrong is None or rounds < wrong[0] for rounds in range(len(same))])
            kinds.add(wrong is None)
        self.assertEqual(kinds, {True, False})

    def test_still_files(self):
        seen = 0
        for loop in LOOPS:
            least, starts, _ = least_paper(loop, machine_for(loop))
            kind, spans = error_of(spans_of, loop, least, starts)
            if kind is not None:
                continue
            for copies in [copies for copies in range(1, 7) if copies * len(spans) <= 12]:
                registers = least_still(spans, copies)
                if registers is not None:
                    self.assertGreaterEqual(registers, spans.most)
                    for many in range(1, min(64, registers + 1) + 1):
                        paper = still_paper(spans, copies, many)
                        self.assertIs(is_still_paper(spans, copies, many, paper), True)
                        self.assertEqual(paper[0] == "places", many >= registers)
            enough = 1
            while enough < 64 and error_of(lasting_places, spans, enough)[0] is InvalidArgument:
                enough += 1
            kind, places = error_of(lasting_places, spans, enough)
            if kind is None:
                self.assertEqual(len(set(places.values())), spans.most)
                seen += 1
        self.assertGreater(seen, 100)


class AndBack(unittest.TestCase):
    def test_texts_are_read_back(self):
        for loop in LOOPS:
            machine = machine_for(loop)
            least, starts, trees = least_paper(loop, machine)
            self.assertEqual(read_loop(write_loop(loop)), loop)
            self.assertEqual(read_machine(write_machine(machine)), machine)
            self.assertEqual(read_plan(loop, write_plan(loop, least, starts)), (least, starts))
            for at, tree in enumerate(trees):
                self.assertEqual(read_tree(loop, at + 1, write_tree(loop, at + 1, tree)), tree)
            again = tuple(read_tree(loop, at + 1, write_tree(loop, at + 1, tree)) for at, tree in enumerate(trees))
            self.assertIs(is_least_paper(read_loop(write_loop(loop)), machine, (least, starts, again)), True)
            kind, spans = error_of(spans_of, loop, least, starts)
            if kind is None:
                registers = least_turning(spans)
                bases = turning_paper(spans, registers)[1]
                self.assertEqual(read_spans(write_spans(spans)), spans)
                self.assertEqual(read_bases(spans, write_bases(spans, registers, bases)), (registers, bases))

    def test_a_desk_made_anew_is_equal(self):
        for loop in LOOPS[:120]:
            machine = machine_for(loop)
            least, starts, _ = least_paper(loop, machine)
            desk = Desk(loop, machine)
            desk.take(least, starts)
            desk.pin(("interval", least))
            again = Desk(read_loop(write_loop(desk.loop)), read_machine(write_machine(desk.machine)))
            again.take(*read_plan(again.loop, write_plan(desk.loop, desk.interval, desk.starts)))
            again.pin(("interval", again.least))
            self.assertEqual(again, desk)
            self.assertEqual((again.registers, str(again), list(again)), (desk.registers, str(desk), list(desk)))
            for name in loop:
                self.assertEqual(completed(loop, machine, least, {name: starts[name]})[name], starts[name])
            self.assertEqual(fewest_moved(loop, machine, least, starts), ())
            self.assertTrue(any(one.is_below(machine) for one in least_machines(loop, least)))
            self.assertTrue(is_easier(loop, machine, loop, machine))


class Conventions(unittest.TestCase):
    def test_what_is_passed_stays(self):
        starts, bases = {"sum": 1, "item": 0}, {"sum": 0, "item": 0}
        wide, places = {"b": 2, "a": 0}, {("b", 0): 1, ("a", 0): 0}
        follows = {"b": ("a", 1), "a": ("b", 1)}
        told = (starts, bases, wide, places, follows)
        before = deepcopy(told)
        kernel = kernel_of(SUM, 2, starts, 2, bases)
        wiring = Wiring(TWO, follows)
        wiring_of(TWO, 3, wide)
        held(TWO, 3, wide, 5)
        write_bases(TWO, 3, wide)
        write_plan(SUM, 2, starts)
        still_paper(TWO, 1, 2)
        completed(SUM, machine_for(SUM), 2, starts)
        desk = Desk(SUM, machine_for(SUM))
        desk.take(2, starts)
        desk.move("sum", 1)
        desk.put(Operation("item", uses=(("mem", 0),)), start=0)
        self.assertEqual((told, [list(one) for one in told]), (before, [list(one) for one in before]))
        for one in told:
            one.clear()
        self.assertEqual((kernel.starts, wiring.registers, desk.starts),
                         ({"item": 0, "sum": 1}, 3, {"item": 0, "sum": 1}))

    def test_returned_dicts_ascend_and_are_new(self):
        kernel = kernel_of(SUM, 2, {"sum": 1, "item": 0}, 2, {"sum": 0, "item": 0})
        wiring = trip(TWO, ("b", "a"))
        calls = [lambda: kernel.starts, lambda: kernel.bases, lambda: long_readings(kernel),
                 lambda: kernel.played(1, meaning), lambda: turning_paper(TWO, 3)[1], lambda: bases_of(wiring),
                 lambda: next(each_bases(TWO, 3)), lambda: next(each_places(TWO, 2, 2)), lambda: lasting_places(TWO, 3),
                 lambda: still_paper(TWO, 2, 2)[1], lambda: wiring.follows, lambda: sum_paper(SUM, 2)[1],
                 lambda: least_sums(SUM), lambda: completed(MEET, P, 3, {"v": 4}),
                 lambda: read_plan(MEET, "interval 3\nstart v 1\nstart u 0")[1],
                 lambda: read_bases(TWO, "registers 3\nbase b 2\nbase a 0")[1], lambda: wiring_paper(TWO, 2)[1]]
        for call in calls:
            value = call()
            self.assertEqual(list(value), sorted(value))
            self.assertEqual(value, call())
            kept = dict(value)
            value.clear()
            self.assertEqual(call(), kept)

    def test_generators_raise_when_the_first_value_is_asked_for(self):
        kernel = kernel_of(SUM, 2, {"item": 0, "sum": 1}, 2, {"item": 0, "sum": 0})
        for made in (each_bases(None, 0), each_places(None, 0, 0), kernel.timeline(-1)):
            self.assertTrue(isgenerator(made))
            self.assertIsNotNone(error_of(lambda one: next(one), made)[0])

    def test_only_some_objects_can_be_iterated(self):
        kernel = kernel_of(SUM, 2, {"item": 0, "sum": 1}, 2, {"item": 0, "sum": 0})
        desk = Desk(SUM, machine_for(SUM))
        for one in (kernel, trip(TWO, ("a", "b")), SUM["sum"], Plan(MEET, P, 3, {"u": 0, "v": 1})):
            with self.assertRaises(TypeError):
                iter(one)
        for one in (SUM, P, TWO, desk):
            self.assertEqual(list(one), sorted(one))

    def test_not_equal_is_the_opposite_of_equal(self):
        kernel = kernel_of(SUM, 2, {"item": 0, "sum": 1}, 2, {"item": 0, "sum": 0})
        again = Kernel(SUM, 2, 2, kernel.rows)
        values = [kernel, again, Desk(MEET, P), Desk(MEET, P), TWO, Spans(2, TWO.rows), SUM, MEET, P, None, (), {},
                  "a", 1]
        for one in values:
            for other in values:
                self.assertIs(one != other, not one == other)

    def test_interleaved_calls(self):
        draw = Random(8)
        for loop in LOOPS[:20]:
            machine = machine_for(loop)
            before = least_paper(loop, machine)
            desk = Desk(loop, machine)
            desk.take(before[0], before[1])
            desk.during(lambda one: one.put(Operation("zz", ticks=draw.randint(1, 4))))
            self.assertEqual(least_paper(loop, machine), before)
            self.assertEqual((desk.loop, desk.starts), (loop, before[1]))
        self.assertEqual(str(Loop(Operation("a"))), "loop of 1 operations, 0 arcs")


if __name__ == "__main__":
    unittest.main()
