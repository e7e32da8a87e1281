"""The sentences of [0.18]: for each of them a case in which it is false."""

import unittest
from itertools import combinations, product

from overrounds.file.spans import Spans, spans_of
from overrounds.file.still import is_still_paper, least_still
from overrounds.file.turning import is_turning_paper, least_turning, turning_paper
from overrounds.flow.sums import least_sums
from overrounds.loop.loops import Loop, Operation
from overrounds.plan.machines import Machine
from overrounds.plan.plans import is_fitting, is_plan
from overrounds.rings.ratios import unrolled
from overrounds.units.least import bounds, intervals, least_interval
from overrounds.units.trees import has_plan

from samples import MEET, P, all_starts

# An a holds p and then q, a b holds q and two ticks later p.
CROSS = Loop(Operation("a", uses=(("p", 0), ("q", 1))), Operation("b", uses=(("p", 2), ("q", 0))))
PQ = Machine(p=1, q=1)


def slow_slots(copies, interval):
    """Slots of so many copies of a and of b that crowd no unit of CROSS, or None."""
    for first in combinations(range(interval), copies):
        for last in combinations(range(interval), copies):
            p = [*first, *[(slot + 2) % interval for slot in last]]
            q = [*[(slot + 1) % interval for slot in first], *last]
            if len(set(p)) == len(p) and len(set(q)) == len(q):
                return [*first, *last]
    return None


def fewest_registers(loop, interval, ticks):
    """The least number of registers of all starts that fit and lie in a window."""
    return min(least_turning(spans_of(loop, interval, starts)) for starts in all_starts(loop, ticks)
               if is_fitting(loop, interval, starts))


class NotTrue(unittest.TestCase):
    def test_the_next_interval_has_a_plan(self):
        twice = Loop(Operation("a", uses=(("p", 0), ("p", 3))))
        self.assertEqual([has_plan(twice, P, interval) for interval in (2, 3)], [True, False])
        self.assertEqual(intervals(twice, P, most=6), (2, 4, 5, 6))

    def test_the_greater_one_of_what_rings_and_units_ask(self):
        self.assertEqual((max(bounds(MEET, P)), least_interval(MEET, P)), (2, 3))

    def test_the_mean_interval_has_a_least_value(self):
        # No number of copies has a plan for twice as many ticks. Such a plan leaves no slot of p and of q free, so if
        # X are the slots of all a, both those of p and those of q tell the slots of all b: X and X + 3 are the same.
        # So X is some whole classes of each third slot; but it is just half of all slots.
        for copies in (1, 2):
            loop = unrolled(CROSS, copies)
            self.assertFalse(has_plan(loop, PQ, 2 * copies))
            self.assertEqual(least_interval(loop, PQ), 2 * copies + 1)
        for copies in (1, 2, 3, 4, 5):
            self.assertIsNone(slow_slots(copies, 2 * copies))
        # But with one tick more there is one for each, and so the mean always goes on falling.
        for copies in (1, 2, 3, 4):
            slots = slow_slots(copies, 2 * copies + 1)
            loop = unrolled(CROSS, copies)
            self.assertTrue(is_plan(loop, PQ, 2 * copies + 1, dict(zip(loop.names, slots))))

    def test_greater_intervals_need_no_more_registers(self):
        loop = Loop(Operation("y", ticks=4, reads=(("y", 2),)))
        self.assertEqual([fewest_registers(loop, interval, range(3)) for interval in (2, 3, 4)], [1, 1, 2])

    def test_as_many_registers_as_the_most_are_enough_in_a_file_that_turns(self):
        two = Spans(2, {"a": (0, 2), "b": (1, 3)})
        self.assertEqual((two.most, least_turning(two), turning_paper(two, 2)[0]), (2, 3, "apart"))
        self.assertTrue(is_turning_paper(two, 2, ("apart", ("b",))))

    def test_one_more_is_enough_in_a_still_file_with_one_copy(self):
        # Each two of the five spans meet, but only three of them in one tick.
        spans = Spans(5, {name: (at, at + 3) for at, name in enumerate("abcde")})
        self.assertEqual((spans.most, least_still(spans, 1)), (3, 5))
        tree = (("e", 0), (None, None, None, None))
        for at, name in reversed(list(enumerate("abcd"))):
            tree = ((name, 0), (None,) * at + (tree,))
        self.assertTrue(is_still_paper(spans, 1, 4, ("tree", tree)))

    def test_more_copies_never_need_more_registers(self):
        # With three spans of a round and an odd number of copies, registers cannot take turns.
        spans = Spans(3, {"a": (0, 2), "b": (1, 3), "c": (2, 4)})
        self.assertEqual([least_still(spans, copies) for copies in (1, 2, 3, 4)], [3, 2, 3, 2])

    def test_the_least_sum_needs_the_fewest_registers(self):
        crowd = Loop(Operation("a"), Operation("b"), Operation("r"),
                     Operation("p", ticks=2, reads=(("r", 0), ("a", 0))), Operation("q", reads=(("r", 0), ("b", 0))))
        fitting = [starts for starts in (dict(zip(crowd.names, row)) for row in product(range(4), repeat=5))
                   if is_fitting(crowd, 3, starts)]
        least = least_sums(crowd)[3]
        mosts = {}
        for starts in fitting:
            spans = spans_of(crowd, 3, starts)
            mosts.setdefault(spans.total == least, []).append(least_turning(spans))
        self.assertEqual((min(mosts[True]), min(mosts[False])), (3, 2))


if __name__ == "__main__":
    unittest.main()
