"""overrounds.flow.sums: sums of spans, and the flows that bound them."""

import unittest
from itertools import product
from random import Random

from overrounds.errors import InvalidArgument, InvalidLoop, InvalidNumber, UnknownName
from overrounds.file.spans import spans_of
from overrounds.flow.sums import (is_flow, is_sum_paper, least_length, least_sums, line, registers_bound, sum_of,
                                  sum_paper)
from overrounds.loop.loops import Loop, Operation
from overrounds.rings.starts import free_interval, start_paper

from samples import MEET, NO_INTERVALS, NO_STARTS, P, ROUND, SUM, all_kinds, all_starts, error_of, slow_fits, some_loops

HALF = Loop(Operation("m", reads=(("u", 0),)), Operation("u"), Operation("v", reads=(("m", 0),)),
            orders=(("u", "v", 4, 0),))
CROWD = Loop(Operation("a"), Operation("b"), Operation("r"), Operation("p", ticks=2, reads=(("r", 0), ("a", 0))),
             Operation("q", reads=(("r", 0), ("b", 0))))
# The value of a is read twice, that of b never.
TWICE = Loop(Operation("a", ticks=2), Operation("b", reads=(("a", 0), ("a", 2), ("a", 0))),
             Operation("c", reads=(("a", 1),)))
# With greater intervals v can start sooner, up to where it reads u.
FALL = Loop(Operation("u"), Operation("v", reads=(("u", 0),)), orders=(("u", "v", 4, 1),))
SMALL = [loop for loop in some_loops(2500, 6000) if len(loop) <= 3 and free_interval(loop) <= 6][:60]
LOOPS = some_loops(300, 9000)


def slow_sum(loop, interval, starts):
    """The sum of the lengths of all spans, reading by reading."""
    total = 0
    for one in loop.operations:
        written = starts[one.name] + one.ticks
        last = [starts[reader] + interval * distance for reader in loop for name, distance in loop[reader].reads
                if name == one.name]
        total += max([written, *last]) + 1 - written
    return total


def slow_least(loop, interval):
    """The least sum of all starts in a window, or None if none fit."""
    # Moving all operations but one by more than this changes no row that is tight.
    fitting = [starts for starts in all_starts(loop, range(14)) if slow_fits(loop, interval, starts)]
    return min([slow_sum(loop, interval, starts) for starts in fitting], default=None)


def all_flows(loop, most):
    """All flows with amounts up to `most`."""
    return [(arcs, readings) for arcs in product(range(most + 1), repeat=len(loop.arcs))
            for readings in product((0, 1), repeat=len(loop.readings)) if slow_is_flow(loop, arcs, readings)]


def slow_is_flow(loop, arcs, readings):
    read = {name for name, _, _ in loop.readings}
    for name in read:
        if sum(many for many, reading in zip(readings, loop.readings) if reading[0] == name) != 1:
            return False
    for name in loop:
        out = sum(many for many, arc in zip(arcs, loop.arcs) if arc[0] == name)
        out += sum(many for many, reading in zip(readings, loop.readings) if reading[1] == name)
        if out != sum(many for many, arc in zip(arcs, loop.arcs) if arc[1] == name) + (name in read):
            return False
    return True


class Flows(unittest.TestCase):
    def test_against_all_amounts(self):
        seen = 0
        for loop in (SUM, MEET, HALF, TWICE):
            for arcs in product(range(3), repeat=len(loop.arcs)):
                for readings in product(range(3), repeat=len(loop.readings)):
                    wanted = slow_is_flow(loop, arcs, readings)
                    self.assertIs(is_flow(loop, (arcs, readings)), wanted)
                    seen += wanted
        self.assertGreater(seen, 10)

    def test_what_is_none(self):
        good = ((1, 0), (1, 1))
        self.assertIs(is_flow(SUM, good), True)
        for wrong in [((1, -1), (1, 1)), ((1, 0), (1, -1)), ((1, 0), (1, True)), ((True, 0), (1, 1)),
                      ((1, False), (1, 1)), ((1,), (1, 1)), ((1, 0, 0), (1, 1)), ((1, 0), (1,)), ((1, 0), (1, 1, 0)),
                      ([1, 0], (1, 1)), ((1, 0), [1, 1]), [(1, 0), (1, 1)], ((1, 0), (1, 1), ()), ((1, 0),), (), None,
                      ((1, "0"), (1, 1)), ((1, None), (1, 1)), ((1, 10 ** 39), (1, 1)), ((0, 0), (1, 1)),
                      ((2, 0), (1, 1)), ((1, 0), (0, 1)), ((1, 0), (2, 1)), ((1, 0), (0, 0)), {0: (1, 0), 1: (1, 1)},
                      SUM,
                      *all_kinds()]:
            self.assertIs(is_flow(SUM, wrong), False, wrong)
            self.assertIs(error_of(line, SUM, wrong)[0], InvalidArgument, wrong)
        for amount in (0, 1, 5, 10 ** 12 - 1):
            self.assertIs(is_flow(SUM, ((1, amount), (1, 1))), True)
        self.assertIs(is_flow(SUM, ((1, 10 ** 12), (1, 1))), False)
        for wrong in all_kinds():
            if not isinstance(wrong, Loop):
                for call in (is_flow, line):
                    self.assertIs(error_of(call, wrong, None)[0], InvalidLoop, wrong)

    def test_amounts_that_do_not_balance(self):
        # Each amount that is changed by one unbalances an operation, but for a ring from an operation to itself.
        for loop in (SUM, MEET, HALF, TWICE, CROWD, ROUND):
            _, _, (arcs, readings) = sum_paper(loop, 8)
            self.assertIs(is_flow(loop, (arcs, readings)), True)
            for at, arc in enumerate(loop.arcs):
                more = arcs[:at] + (arcs[at] + 1,) + arcs[at + 1:]
                self.assertIs(is_flow(loop, (more, readings)), arc[0] == arc[1])
            for at in range(len(readings)):
                for by in (-1, 1):
                    more = readings[:at] + (readings[at] + by,) + readings[at + 1:]
                    self.assertIs(is_flow(loop, (arcs, more)), False)

    def test_values_that_are_read_never_and_more_than_once(self):
        alone = Loop(Operation("a"))
        self.assertIs(is_flow(alone, ((), ())), True)
        self.assertEqual((line(alone, ((), ())), least_sums(alone)[1]), ((1, 0), 1))
        self.assertEqual(TWICE.readings, (("a", "b", 0), ("a", "b", 2), ("a", "c", 1)))
        flows = all_flows(TWICE, 1)
        self.assertEqual({readings for _, readings in flows}, {(1, 0, 0), (0, 1, 0), (0, 0, 1)})
        self.assertEqual(TWICE.arcs, (("a", "b", 2, 0), ("a", "b", 2, 2), ("a", "c", 2, 1)))
        self.assertIs(is_flow(TWICE, ((0, 1, 0), (1, 0, 0))), True)
        self.assertIs(is_flow(TWICE, ((0, 0, 1), (1, 0, 0))), False)

    def test_line(self):
        for loop in (SUM, MEET, HALF, TWICE):
            for arcs, readings in all_flows(loop, 2):
                base = len(loop) - sum(loop[name].ticks for name in {one[0] for one in loop.readings})
                base += sum(many * arc[2] for many, arc in zip(arcs, loop.arcs))
                slope = sum(many * one[2] for many, one in zip(readings, loop.readings))
                slope -= sum(many * arc[3] for many, arc in zip(arcs, loop.arcs))
                self.assertEqual(line(loop, (arcs, readings)), (base, slope))


class Sums(unittest.TestCase):
    def test_sum_of(self):
        seen = 0
        for loop in SMALL:
            for interval in (1, 2, 3, 5):
                for starts in all_starts(loop, (0, 1, 4, 60)):
                    kind, value = error_of(sum_of, loop, interval, starts)
                    if not slow_fits(loop, interval, starts):
                        self.assertIs(kind, InvalidArgument)
                        continue
                    self.assertEqual(value, slow_sum(loop, interval, starts))
                    if max(starts.values()) < 60:
                        spans = spans_of(loop, interval, starts)
                        self.assertEqual(value, spans.total)
                        self.assertEqual(value, sum(spans.alive(tick) for tick in range(7, 7 + interval)))
                    seen += 1
        self.assertGreater(seen, 500)

    def test_long_spans_count_too(self):
        self.assertEqual(sum_of(SUM, 2, {"item": 0, "sum": 10 ** 6}), 10 ** 6 + 1)

    def test_errors(self):
        for wrong in all_kinds() + [P]:
            if isinstance(wrong, Loop):
                continue
            for call in (lambda: sum_of(wrong, 0, {}), lambda: sum_paper(wrong, 0),
                         lambda: is_sum_paper(wrong, 0, None),
                         lambda: least_sums(wrong), lambda: least_length(wrong, 0, "x"),
                         lambda: registers_bound(wrong, 0)):
                self.assertIs(error_of(call)[0], InvalidLoop, wrong)
        for wrong in NO_INTERVALS:
            for call in (lambda: sum_of(SUM, wrong, {}), lambda: sum_paper(SUM, wrong),
                         lambda: is_sum_paper(SUM, wrong, None), lambda: least_length(SUM, wrong, "x"),
                         lambda: registers_bound(SUM, wrong)):
                kind, error = error_of(call)
                self.assertIs(kind, InvalidNumber, wrong)
                self.assertIs(error.value, wrong)
        for wrong in NO_STARTS + [{"item": 0, "sum": 0}, *all_kinds()]:
            self.assertIs(error_of(sum_of, SUM, 2, wrong)[0], InvalidArgument, wrong)
        self.assertIs(error_of(sum_of, SUM, 1, {"item": 0, "sum": 1})[0], InvalidArgument)

    def test_least_sums(self):
        seen = 0
        for loop in SMALL:
            sums = least_sums(loop)
            self.assertEqual(list(sums), list(range(free_interval(loop), 33)))
            for interval in [one for one in (1, 2, 3, 4) if one in sums][:2]:
                self.assertEqual(sums[interval], slow_least(loop, interval), (str(loop), loop.arcs, interval))
                seen += 1
        self.assertGreater(seen, 60)

    def test_the_sums_are_convex(self):
        directions = set()
        for loop in LOOPS + [FALL]:
            sums = least_sums(loop)
            steps = [sums[at + 1] - sums[at] for at in list(sums)[:-1]]
            self.assertEqual(steps, sorted(steps))
            directions |= {(step > 0) - (step < 0) for step in steps}
        self.assertEqual(directions, {-1, 0, 1})
        self.assertEqual([least_sums(FALL)[interval] for interval in (1, 2, 3, 4)], [4, 3, 2, 2])

    def test_no_flow_is_worth_more(self):
        for loop in (SUM, MEET, HALF, TWICE, ROUND):
            sums = least_sums(loop)
            lines = [line(loop, flow) for flow in all_flows(loop, 3 if len(loop.arcs) < 4 else 2)]
            for interval, least in sums.items():
                self.assertEqual(max(base + slope * interval for base, slope in lines), least)


class Papers(unittest.TestCase):
    def test_both_forms(self):
        forms = set()
        for loop in LOOPS:
            sums = least_sums(loop)
            for interval in (1, 2, 3, 4, 5, 7, 12, 32):
                paper = sum_paper(loop, interval)
                self.assertIs(is_sum_paper(loop, interval, paper), True, (loop.arcs, interval, paper))
                self.assertEqual(paper[0], "sum" if interval in sums else "ring")
                if paper[0] == "sum":
                    self.assertEqual(sum_of(loop, interval, paper[1]), sums[interval])
                    base, slope = line(loop, paper[2])
                    self.assertEqual(base + slope * interval, sums[interval])
                    self.assertEqual(list(paper[1]), list(loop.names))
                else:
                    self.assertEqual(start_paper(loop, interval)[0], "ring")
                forms.add(paper[0])
        self.assertEqual(forms, {"sum", "ring"})

    def test_starts_and_flows_near_right_ones(self):
        good = {"u": 0, "m": 2, "v": 4}
        flow = ((0, 0, 1), (1, 1))
        for m, wanted in ((0, False), (1, True), (2, True), (3, True), (4, False)):
            self.assertIs(is_sum_paper(HALF, 1, ("sum", {**good, "m": m}, flow)), wanted)
        for wrong in [("sum", {**good, "v": 5}, flow), ("sum", {**good, "v": 3}, flow),
                      ("sum", {**good, "u": False}, flow),
                      ("sum", {"u": 0, "m": 2}, flow), ("sum", good, ((1, 1, 0), (1, 1))),
                      ("sum", good, ((0, 0, 1), (1, 0))),
                      ("sum", good, ((0, 0, True), (1, 1))), ("sum", good, [(0, 0, 1), (1, 1)]), ("sum", good),
                      ("sum", good, flow, 0), ["sum", good, flow], ("Sum", good, flow), (good, flow), ("ring", (0,)),
                      ("ring", ()), None, *all_kinds()]:
            self.assertIs(is_sum_paper(HALF, 1, wrong), False, wrong)
        self.assertIs(is_sum_paper(HALF, 1, ("sum", {name: good[name] + 7 for name in good}, flow)), True)
        # The same flow is worth as much with each interval.
        self.assertIs(is_sum_paper(HALF, 9, ("sum", good, flow)), True)

    def test_random_changes(self):
        draw, changed = Random(3), 0
        for loop in LOOPS[:120]:
            interval = free_interval(loop) + 1
            _, starts, (arcs, readings) = sum_paper(loop, interval)
            name = draw.choice(loop.names)
            other = {**starts, name: starts[name] + draw.choice((1, 2))}
            wanted = slow_fits(loop, interval, other) and slow_sum(loop, interval, other) == slow_sum(loop, interval,
                                                                                                     starts)
            self.assertIs(is_sum_paper(loop, interval, ("sum", other, (arcs, readings))), wanted)
            changed += not wanted
        self.assertGreater(changed, 60)

    def test_rings(self):
        for interval, wanted in ((1, True), (2, False), (3, False)):
            self.assertIs(is_sum_paper(SUM, interval, ("ring", (1,))), wanted)
        self.assertEqual(ROUND.ring_sum((0, 1, 2)), (5, 2))
        for ring in ((0, 1, 2), (1, 2, 0), (2, 0, 1)):
            self.assertEqual([is_sum_paper(ROUND, interval, ("ring", ring)) for interval in (1, 2, 3)],
                             [True, True, False])
        for wrong in ((0, 1), (0, 1, 2, 0), (True,), (False, 1, 2), [0, 1, 2], None, (3,), (2, 1, 0)):
            self.assertIs(is_sum_paper(ROUND, 1, ("ring", wrong)), False, wrong)
        # A ring that is just as long as the interval lets it be shows nothing.
        even = Loop(Operation("a", ticks=4, reads=(("a", 2),)))
        self.assertEqual([is_sum_paper(even, interval, ("ring", (0,))) for interval in (1, 2)], [True, False])
        self.assertEqual([sum_paper(even, interval)[0] for interval in (1, 2)], ["ring", "sum"])


class Lengths(unittest.TestCase):
    def test_least_length(self):
        seen = 0
        for loop in SMALL:
            interval = max(free_interval(loop), 2)
            fitting = [starts for starts in all_starts(loop, range(14)) if slow_fits(loop, interval, starts)]
            for name in loop:
                lengths = []
                for starts in fitting:
                    written = starts[name] + loop[name].ticks
                    last = [starts[reader] + interval * distance for value, reader, distance in loop.readings
                            if value == name]
                    lengths.append(max([written, *last]) + 1 - written)
                self.assertEqual(least_length(loop, interval, name), min(lengths))
                seen += min(lengths) > 1
        self.assertGreater(seen, 20)

    def test_registers_bound(self):
        for loop in LOOPS:
            sums = least_sums(loop)
            for interval in (1, 2, 3, 6, 32):
                if interval in sums:
                    self.assertEqual(registers_bound(loop, interval), -(-sums[interval] // interval))

    def test_no_plan_needs_fewer(self):
        for loop in SMALL[:30]:
            interval = max(free_interval(loop), 2)
            bound = registers_bound(loop, interval)
            for starts in all_starts(loop, range(8)):
                if slow_fits(loop, interval, starts):
                    self.assertGreaterEqual(spans_of(loop, interval, starts).most, bound)

    def test_errors(self):
        for wrong in ["x", 0, None, *all_kinds()]:
            kind, error = error_of(least_length, SUM, 1, wrong)
            self.assertIs(kind, UnknownName, wrong)
            self.assertIs(error.wanted, wrong)
        self.assertIs(error_of(least_length, SUM, 1, "sum")[0], InvalidArgument)
        self.assertIs(error_of(registers_bound, SUM, 1)[0], InvalidArgument)
        self.assertEqual((least_length(SUM, 2, "sum"), registers_bound(SUM, 2)), (1, 1))


class NotTrue(unittest.TestCase):
    """The sentences of [10.6]."""

    def test_the_least_sum_is_not_the_sum_of_the_least_lengths(self):
        self.assertEqual([least_length(HALF, 1, name) for name in HALF], [1, 1, 1])
        self.assertEqual(least_sums(HALF)[1], 5)

    def test_the_least_sum_can_need_more_registers(self):
        mosts = {}
        for starts in all_starts(CROWD, range(6)):
            if slow_fits(CROWD, 3, starts):
                spans = spans_of(CROWD, 3, starts)
                mosts[spans.total] = min(spans.most, mosts.get(spans.total, 9))
        self.assertEqual(min(mosts), least_sums(CROWD)[3])
        self.assertEqual((mosts[5], mosts[6]), (3, 2))

    def test_the_bound_is_not_always_reached(self):
        # All three values are written in one tick.
        orders = tuple((one, other, 0, 0) for one, other in (("a", "b"), ("b", "c")))
        loop = Loop(Operation("a"), Operation("b"), Operation("c"),
                    Operation("d", reads=(("a", 0), ("b", 0), ("c", 0))),
                    orders=(*orders, ("d", "a", 3, 1)))
        self.assertEqual(error_of(registers_bound, loop, 3)[0], InvalidArgument)
        self.assertEqual(registers_bound(loop, 4), 1)
        fitting = [starts for starts in all_starts(loop, range(8)) if slow_fits(loop, 4, starts)]
        self.assertEqual({spans_of(loop, 4, starts).most for starts in fitting}, {3})


if __name__ == "__main__":
    unittest.main()
