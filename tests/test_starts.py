"""overrounds.rings.starts: starts that fit a loop, without units."""

import unittest

from overrounds.errors import InvalidArgument, InvalidLoop, InvalidNumber, UnknownName
from overrounds.loop.loops import Loop, Operation
from overrounds.plan.plans import is_fitting
from overrounds.rings.starts import free_interval, gap, is_start_paper, least_starts, slacks, start_paper

from samples import MEET, NO_INTERVALS, ROUND, SUM, all_kinds, all_starts, error_of, slow_fits, slow_rings, some_loops

LOOPS = some_loops(250)
PLAIN = Loop(Operation("a"), Operation("b"), Operation("c", reads=(("b", 2),)))
LONG = Loop(*[Operation(name, ticks=4, reads=((before, int(name == "a")),))
              for before, name in zip("habcdefg", "abcdefgh")])


def small_loops():
    """Loops of at most three names, with distances of at most 2."""
    return [loop for loop in LOOPS if len(loop) <= 3 and all(arc[3] <= 2 for arc in loop.arcs)][:45]


def slow_interval(loop):
    """The least interval by which no ring has a greater delay than its distance allows."""
    rings = [loop.ring_sum(ring) for ring in slow_rings(loop)]
    return min(interval for interval in range(1, 33) if all(p <= interval * q for p, q in rings))


class Papers(unittest.TestCase):
    def test_example(self):
        self.assertEqual([free_interval(ROUND), start_paper(ROUND, 2)[0]], [3, "ring"])
        self.assertEqual([least_starts(ROUND, 3), gap(ROUND, 3, "b", "a"), slacks(ROUND, 3)],
                         [{"a": 0, "b": 2, "c": 3}, -3, (1, 1, 1)])

    def test_both_kinds(self):
        for loop in LOOPS + [LONG]:
            least = slow_interval(loop)
            self.assertEqual(free_interval(loop), least)
            kind, starts = start_paper(loop, least)
            self.assertEqual(kind, "starts")
            self.assertTrue(is_fitting(loop, least, starts))
            self.assertEqual(list(starts), list(loop.names))
            self.assertIs(is_start_paper(loop, least, (kind, starts)), True)
            if least > 1:
                kind, ring = start_paper(loop, least - 1)
                delay, distance = loop.ring_sum(ring)
                self.assertTrue(kind == "ring" and delay > (least - 1) * distance)
                self.assertIs(is_start_paper(loop, least - 1, (kind, ring)), True)
                self.assertIs(is_start_paper(loop, least - 1, ("starts", starts)), False)
                self.assertIs(is_start_paper(loop, least, (kind, ring)), False)

    def test_the_kind_at_every_interval(self):
        for loop in LOOPS[::3] + [LONG]:
            least = free_interval(loop)
            for interval in range(1, 33):
                paper = start_paper(loop, interval)
                self.assertEqual(paper[0], "starts" if interval >= least else "ring")
                self.assertTrue(is_start_paper(loop, interval, paper))

    def test_greatest_interval_that_is_needed(self):
        self.assertEqual((free_interval(LONG), len(start_paper(LONG, 31)[1])), (32, 8))
        self.assertEqual(free_interval(PLAIN), 1)
        self.assertEqual([free_interval(SUM), free_interval(MEET)], [2, 2])

    def test_rings_begin_anywhere(self):
        for ring in ((0, 1, 2), (1, 2, 0), (2, 0, 1)):
            self.assertIs(is_start_paper(ROUND, 2, ("ring", ring)), True)
            self.assertIs(is_start_paper(ROUND, 1, ("ring", ring)), True)
            self.assertIs(is_start_paper(ROUND, 3, ("ring", ring)), False)
        for loop in LOOPS[::4]:
            for ring in slow_rings(loop)[:20]:
                delay, distance = loop.ring_sum(ring)
                for interval in (1, 2, 3, 4):
                    for at in range(len(ring)):
                        self.assertIs(is_start_paper(loop, interval, ("ring", ring[at:] + ring[:at])),
                                      delay > interval * distance)

    def test_rings_just_as_long_as_the_interval_allows(self):
        self.assertIs(is_start_paper(SUM, 1, ("ring", (1,))), True)
        self.assertIs(is_start_paper(SUM, 2, ("ring", (1,))), False)
        self.assertIs(is_start_paper(MEET, 1, ("ring", (1, 0))), True)
        self.assertIs(is_start_paper(MEET, 2, ("ring", (1, 0))), False)

    def test_values_near_right_ones(self):
        good = {"a": 0, "b": 2, "c": 3}
        for starts in (good, {"c": 4, "b": 3, "a": 0}, {"a": 10 ** 6 - 3, "b": 10 ** 6 - 1, "c": 10 ** 6}):
            self.assertIs(is_start_paper(ROUND, 3, ("starts", starts)), True)
        for value in [("starts", {**good, "b": 1}), ("starts", {**good, "c": 5}), ("starts", {"a": 0, "b": 2}),
                      ("starts", {**good, "d": 0}), ("starts", {**good, "a": True}), ("starts", (0, 2, 3)), ("starts",),
                      ("ring", good), ("starts", good, ()), ["starts", good], good, ("Starts", good), (None, good),
                      ("starts", {"a": -1, "b": 1, "c": 2}),
                      ("starts", {name: 10 ** 6 + at for name, at in good.items()}),
                      ("circuit", (0, 1, 2)), (ROUND, good), *[(kind, value) for kind in ("starts", "ring")
                                                               for value in all_kinds()], *all_kinds()]:
            self.assertIs(is_start_paper(ROUND, 3, value), False, value)
        for ring in [(0, 1), (0,), (), (0, 1, 2, 0), (0, 2, 1), [0, 1, 2], (0, 1, 3), (0, 1, -1), (False, 1, 2),
                     (0, True, 2), (0, 1, "2"), (0, 1, 2, 0, 1, 2), (0, 1, 10 ** 39), {0: 1}, 0, None]:
            self.assertIs(is_start_paper(ROUND, 2, ("ring", ring)), False, ring)
        self.assertIs(is_start_paper(ROUND, 2, ("starts", good)), False)
        for wrong in (["ring", (0, 1, 2)], ("circuit", (0, 1, 2)), ("Ring", (0, 1, 2)), (None, (0, 1, 2)),
                      ("ring", (0, 1, 2), 0)):
            self.assertIs(is_start_paper(ROUND, 2, wrong), False)


class Least(unittest.TestCase):
    def test_against_all_starts_in_small_bounds(self):
        for loop in small_loops():
            for interval in (1, 2, 3):
                fitting = [starts for starts in all_starts(loop, range(19)) if slow_fits(loop, interval, starts)]
                if interval < free_interval(loop):
                    self.assertEqual(fitting, [])
                    continue
                least = {name: min(starts[name] for starts in fitting) for name in loop.names}
                self.assertEqual(least_starts(loop, interval), least)
                self.assertIn(least, fitting)
                self.assert_gaps(loop, interval, fitting)
                self.assert_slacks(loop, interval, fitting)

    def assert_gaps(self, loop, interval, fitting):
        for source in loop.names:
            for target in loop.names:
                least = min(starts[target] - starts[source] for starts in fitting)
                told = gap(loop, interval, source, target)
                if told is None:
                    # Nothing bounds the difference, so it gets as small as the bounds let it.
                    self.assertLess(least, -8)
                else:
                    self.assertEqual(told, least)

    def assert_slacks(self, loop, interval, fitting):
        for arc, told in zip(loop.arcs, slacks(loop, interval)):
            source, target, delay, back = arc
            most = max(starts[target] - starts[source] for starts in fitting) - delay + interval * back
            if told is None:
                self.assertGreater(most, 5)
            else:
                self.assertEqual(told, most)

    def test_slacks_are_those_of_rings(self):
        for loop in LOOPS:
            for interval in (free_interval(loop), 9, 32):
                if interval < free_interval(loop):
                    continue
                rows = [[] for _ in loop.arcs]
                for ring in slow_rings(loop):
                    delay, distance = loop.ring_sum(ring)
                    for index in ring:
                        rows[index].append(interval * distance - delay)
                self.assertEqual(slacks(loop, interval), tuple(min(row, default=None) for row in rows))

    def test_gap(self):
        self.assertEqual([gap(ROUND, 3, "a", "a"), gap(ROUND, 3, "a", "c"), gap(ROUND, 3, "c", "a")], [0, 3, -4])
        self.assertEqual([gap(SUM, 2, "sum", "sum"), gap(SUM, 2, "item", "sum"), gap(SUM, 2, "sum", "item")],
                         [0, 1, None])
        self.assertEqual([gap(PLAIN, 32, "b", "c"), gap(PLAIN, 32, "a", "b"), gap(PLAIN, 1, "a", "a")], [-63, None, 0])
        self.assertEqual(gap(SUM, 32, "sum", "sum"), 0)

    def test_gaps_of_several_rows(self):
        loop = Loop(*[Operation(name) for name in "abcd"],
                    orders=(("a", "b", 1, 0), ("a", "c", 4, 0), ("b", "d", 4, 0), ("c", "d", 2, 0), ("c", "d", 4, 1)))
        self.assertEqual([gap(loop, 1, "a", "d"), gap(loop, 2, "c", "d"), gap(loop, 1, "c", "d")], [7, 2, 3])
        self.assertEqual(slacks(loop, 1), (None,) * 5)

    def test_slacks_beyond_four(self):
        self.assertEqual(slacks(SUM, 32), (None, 30))
        self.assertEqual(slacks(MEET, 32), (30, 30))
        far = Loop(Operation("a", reads=(("a", 3),)))
        self.assertEqual((slacks(far, 1), slacks(far, 32)), ((2,), (95,)))
        self.assertEqual(slacks(Loop(Operation("a")), 1), ())

    def test_returned_dicts_can_be_changed(self):
        least_starts(ROUND, 3).clear()
        start_paper(ROUND, 3)[1]["a"] = 9
        self.assertEqual((least_starts(ROUND, 3), start_paper(ROUND, 3)[0]), ({"a": 0, "b": 2, "c": 3}, "starts"))


class Errors(unittest.TestCase):
    def test_loops(self):
        for wrong in all_kinds():
            if not isinstance(wrong, Loop):
                for call in (lambda: start_paper(wrong, 3), lambda: is_start_paper(wrong, 3, None),
                             lambda: least_starts(wrong, 3), lambda: gap(wrong, 3, "a", "b"), lambda: slacks(wrong, 3),
                             lambda: free_interval(wrong)):
                    self.assertIs(error_of(call)[0], InvalidLoop, wrong)

    def test_intervals(self):
        for wrong in NO_INTERVALS:
            for call in (lambda: start_paper(ROUND, wrong), lambda: is_start_paper(ROUND, wrong, None),
                         lambda: least_starts(ROUND, wrong), lambda: gap(ROUND, wrong, "a", "b"),
                         lambda: slacks(ROUND, wrong)):
                kind, error = error_of(call)
                self.assertIs(kind, InvalidNumber, wrong)
                self.assertIs(error.value, wrong)

    def test_no_starts(self):
        for call in (lambda: least_starts(ROUND, 2), lambda: gap(ROUND, 2, "a", "b"), lambda: gap(ROUND, 1, "a", "a"),
                     lambda: slacks(ROUND, 2)):
            self.assertIs(error_of(call)[0], InvalidArgument)

    def test_names(self):
        for wrong in all_kinds() + ["d", "aa", 0]:
            for call in (lambda: gap(ROUND, 3, wrong, "a"), lambda: gap(ROUND, 3, "a", wrong)):
                kind, error = error_of(call)
                self.assertIs(kind, UnknownName, wrong)
                self.assertIs(error.wanted, wrong)

    def test_which_comes_first(self):
        self.assertIs(error_of(gap, None, 0, None, None)[0], InvalidLoop)
        self.assertIs(error_of(gap, ROUND, 0, None, None)[0], InvalidNumber)
        self.assertEqual(error_of(gap, ROUND, 2, "x", "y")[1].wanted, "x")
        self.assertEqual(error_of(gap, ROUND, 2, "a", "y")[1].wanted, "y")
        for call in (start_paper, least_starts, slacks):
            self.assertIs(error_of(call, None, 0)[0], InvalidLoop)
        self.assertIs(error_of(is_start_paper, None, 0, None)[0], InvalidLoop)


if __name__ == "__main__":
    unittest.main()
