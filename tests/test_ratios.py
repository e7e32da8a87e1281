"""overrounds.rings.ratios: the greatest ratio of the rings of a loop, and unrolled loops."""

import unittest
from fractions import Fraction
from math import ceil

from overrounds.errors import InvalidLoop, InvalidNumber, TooMany
from overrounds.loop.loops import Loop, Operation
from overrounds.plan.machines import Machine
from overrounds.plan.plans import Plan, asked, faults, is_fitting, leeway
from overrounds.rings.ratios import (best_copies, critical, is_ratio_paper, ratio, ratio_paper, unrolled,
                                     unrolled_interval)
from overrounds.rings.starts import free_interval, gap, is_start_paper, least_starts, slacks, start_paper

from samples import MEET, ROUND, SUM, all_kinds, error_of, slow_rings, some_loops

LOOPS = some_loops(250)
CHAIN = Loop(Operation("a"), Operation("b", reads=(("a", 0),)), Operation("c", reads=(("b", 2), ("a", 1))))
EIGHT = Loop(*[Operation(name, reads=((name, 1),)) for name in "abcdefgh"])
TWO_RINGS = Loop(Operation("a", ticks=2, reads=(("a", 1),)), Operation("b", ticks=2, reads=(("c", 1), ("b", 3))),
                 Operation("c", ticks=2, reads=(("b", 1), ("a", 0))))
WIDE = unrolled(Loop(Operation("a"), Operation("b"),
                     orders=(("a", "a", 1, 1), ("a", "b", 0, 0), ("a", "b", 1, 3), ("a", "b", 2, 1), ("a", "b", 2, 2),
                             ("b", "a", 0, 2), ("b", "a", 1, 1), ("b", "a", 4, 3))), 4)


def slow_ratio(loop):
    """The greatest ratio by trying all rings, or None."""
    return max([Fraction(*loop.ring_sum(ring)) for ring in slow_rings(loop)], default=None)


def slow_critical(loop):
    """The arcs of all rings with the greatest ratio, by trying all."""
    most = slow_ratio(loop)
    rings = [ring for ring in slow_rings(loop) if Fraction(*loop.ring_sum(ring)) == most]
    return tuple(sorted({index for ring in rings for index in ring}))


class Ratios(unittest.TestCase):
    def test_examples(self):
        self.assertEqual([ROUND.arcs, ratio(ROUND)], [(("a", "b", 2, 0), ("b", "c", 1, 0), ("c", "a", 2, 2)), (5, 2)])
        self.assertEqual(critical(ROUND), (0, 1, 2))
        self.assertEqual([[unrolled_interval(ROUND, copies) for copies in (1, 2, 3, 4)], best_copies(ROUND)],
                         [[3, 5, 8, 10], 2])

    def test_no_ring(self):
        for loop in (CHAIN, Loop(Operation("a"))):
            self.assertEqual((ratio(loop), critical(loop), best_copies(loop)), (None, (), None))
            self.assertEqual([unrolled_interval(loop, copies) for copies in (1, 7, 10 ** 6)], [1, 1, 1])
        self.assertEqual(ratio_paper(CHAIN), ("order", ("a", "b", "c")))

    def test_rings_without_a_delay(self):
        loop = Loop(Operation("a"), Operation("b"), orders=(("a", "a", 0, 3), ("a", "b", 0, 1), ("b", "a", 0, 0)))
        self.assertEqual((ratio(loop), critical(loop), best_copies(loop)), ((0, 1), (0, 1, 2), None))
        self.assertEqual([unrolled_interval(loop, copies) for copies in (1, 7, 10 ** 6)], [1, 1, 1])
        self.assertTrue(is_ratio_paper(loop, ratio_paper(loop)))

    def test_lowest_terms(self):
        loop = Loop(Operation("a"), Operation("b"), orders=(("a", "b", 4, 1), ("b", "a", 2, 3)))
        self.assertEqual((ratio(loop), best_copies(loop), unrolled_interval(loop, 1)), ((3, 2), 2, 2))
        self.assertEqual((ratio(SUM), ratio(MEET), ratio(EIGHT)), ((2, 1), (2, 1), (1, 1)))
        self.assertEqual(best_copies(SUM), 1)

    def test_several_rings_with_the_greatest_ratio(self):
        self.assertEqual(TWO_RINGS.arcs, (("a", "a", 2, 1), ("a", "c", 2, 0), ("b", "b", 2, 3), ("b", "c", 2, 1),
                                          ("c", "b", 2, 1)))
        self.assertEqual((ratio(TWO_RINGS), critical(TWO_RINGS)), ((2, 1), (0, 3, 4)))
        # For a ring of one arc they ask for 0, 2, -4, 0 and 0, for a ring of two for twice that.
        for ring in ((0,), (3, 4), (4, 3)):
            heights = {"a": 0, "b": 2 * len(ring), "c": 2 * len(ring)}
            self.assertIs(is_ratio_paper(TWO_RINGS, ("ring", ring, heights)), True)
        self.assertIs(is_ratio_paper(TWO_RINGS, ("ring", (3, 4), {"a": 0, "b": 3, "c": 3})), False)
        self.assertIs(is_ratio_paper(TWO_RINGS, ("ring", (2,), {"a": 0, "b": 9, "c": 9})), False)
        self.assertEqual(critical(EIGHT), tuple(range(8)))

    def test_many_loops(self):
        seen = {True: 0, False: 0}
        for loop in LOOPS:
            most = slow_ratio(loop)
            if most is None:
                self.assertIsNone(ratio(loop))
                self.assertEqual(ratio_paper(loop)[0], "order")
            else:
                self.assertEqual(ratio(loop), (most.numerator, most.denominator))
                seen[most.denominator == 1] += 1
                kind, ring, _ = ratio_paper(loop)
                self.assertEqual((kind, Fraction(*loop.ring_sum(ring))), ("ring", most))
            self.assertEqual(critical(loop), slow_critical(loop))
            self.assertTrue(is_ratio_paper(loop, ratio_paper(loop)))
            self.assertEqual(best_copies(loop), most.denominator if most else None)
        self.assertGreater(min(seen.values()), 10)


class Papers(unittest.TestCase):
    def test_orders(self):
        for value in (("a", "b", "c"),):
            self.assertIs(is_ratio_paper(CHAIN, ("order", value)), True)
        loose = Loop(Operation("a"), Operation("b"), Operation("c", reads=(("a", 3),)))
        told = [row for row in (tuple("abc"), tuple("acb"), tuple("bac"), tuple("bca"), tuple("cab"), tuple("cba"))
                if is_ratio_paper(loose, ("order", row))]
        self.assertEqual(told, [tuple("abc"), tuple("acb"), tuple("bac")])
        for wrong in [("b", "a", "c"), ("a", "c", "b"), ("a", "b"), ("a", "b", "c", "c"), ("a", "b", "b"),
                      ("a", "b", "d"), ["a", "b", "c"], "abc", (), ("a", "b", None), ("a", "b", ["c"]), *all_kinds()]:
            self.assertIs(is_ratio_paper(CHAIN, ("order", wrong)), False, wrong)
        for wrong in [("order", ("a", "b", "c"), {}), ["order", ("a", "b", "c")], ("Order", ("a", "b", "c")),
                      ("ring", (), {"a": 0, "b": 0, "c": 0}), ("order",), ("ring", ("a", "b", "c")), *all_kinds()]:
            self.assertIs(is_ratio_paper(CHAIN, wrong), False, wrong)

    def test_an_order_where_there_are_rings(self):
        self.assertIs(is_ratio_paper(SUM, ("order", ("item", "sum"))), False)
        self.assertIs(is_ratio_paper(ROUND, ("order", ("a", "b", "c"))), False)
        self.assertIs(is_ratio_paper(EIGHT, ("order", tuple("abcdefgh"))), False)

    def test_heights(self):
        # Each arc asks for twice its delay less five times its distance: 4, 2 and -6.
        good = {"a": 0, "b": 4, "c": 6}
        for ring in ((0, 1, 2), (1, 2, 0), (2, 0, 1)):
            self.assertIs(is_ratio_paper(ROUND, ("ring", ring, good)), True)
            self.assertIs(is_ratio_paper(ROUND, ("ring", ring, {"c": -94, "b": -96, "a": -100})), True)
        high = 10 ** 12 - 1
        self.assertIs(is_ratio_paper(ROUND, ("ring", (0, 1, 2), {"a": high - 6, "b": high - 2, "c": high})), True)
        for wrong in [{"a": 0, "b": 3, "c": 6}, {"a": 0, "b": 5, "c": 6}, {"a": 1, "b": 4, "c": 6}, {"a": 0, "b": 4},
                      {**good, "d": 0}, {"a": False, "b": 4, "c": 6}, {"a": None, "b": 4, "c": 6}, (0, 4, 6),
                      {"a": "0", "b": 4, "c": 6}, {"a": 0, "b": 4, 2: 6}, {"a": high - 5, "b": high - 1, "c": high + 1},
                      *all_kinds()]:
            self.assertIs(is_ratio_paper(ROUND, ("ring", (0, 1, 2), wrong)), False, wrong)
        for wrong in [(0, 1), (0, 2, 1), (), (0, 1, 2, 0), [0, 1, 2], (0, 1, 3), (0, True, 2), *all_kinds()]:
            self.assertIs(is_ratio_paper(ROUND, ("ring", wrong, good)), False, wrong)
        for wrong in [("ring", (0, 1, 2)), ("ring", (0, 1, 2), good, 0), ["ring", (0, 1, 2), good],
                      ("circuit", (0, 1, 2), good),
                      (None, (0, 1, 2), good)]:
            self.assertIs(is_ratio_paper(ROUND, wrong), False, wrong)

    def test_only_a_ring_with_the_greatest_ratio_will_do(self):
        for loop in LOOPS:
            if not slow_rings(loop):
                continue
            _, best, heights = ratio_paper(loop)
            for ring in slow_rings(loop)[:20]:
                # Heights for one distance are, times another one, heights for that, if the ratios are equal.
                one, other = loop.ring_sum(ring), loop.ring_sum(best)
                scaled = {name: at * one[1] // other[1] for name, at in heights.items()}
                wanted = Fraction(*one) == slow_ratio(loop)
                self.assertIs(is_ratio_paper(loop, ("ring", ring, scaled)), wanted)

    def test_rings_of_other_lengths_with_the_same_ratio(self):
        loop = Loop(Operation("a", ticks=2, reads=(("a", 1), ("b", 1))), Operation("b", ticks=2, reads=(("a", 1),)))
        self.assertEqual(loop.arcs, (("a", "a", 2, 1), ("a", "b", 2, 1), ("b", "a", 2, 1)))
        self.assertIs(is_ratio_paper(loop, ("ring", (0,), {"a": 0, "b": 0})), True)
        self.assertIs(is_ratio_paper(loop, ("ring", (1, 2), {"a": 0, "b": 0})), True)
        self.assertIs(is_ratio_paper(loop, ("ring", (2, 1), {"a": 0, "b": 1})), False)


class Unrolled(unittest.TestCase):
    def test_names_and_arcs(self):
        loop = unrolled(ROUND, 2)
        self.assertEqual(loop.names, ("aa", "ab", "ba", "bb", "ca", "cb"))
        self.assertEqual(loop["aa"], Operation("aa", ticks=2, reads=(("ca", 1),)))
        self.assertEqual(loop["ab"], Operation("ab", ticks=2, reads=(("cb", 1),)))
        self.assertEqual(loop["cb"], Operation("cb", ticks=2, reads=(("bb", 0),)))
        three = unrolled(SUM, 3)
        self.assertEqual([three[name].reads for name in ("ba", "bb", "bc")],
                         [(("bc", 1), ("aa", 0)), (("ba", 0), ("ab", 0)), (("bb", 0), ("ac", 0))])
        self.assertEqual((three["bc"].uses, three["bc"].ticks), ((("add", 0), ("add", 1)), 2))

    def test_orders(self):
        loop = Loop(Operation("x"), Operation("y"), orders=(("x", "y", 3, 2), ("y", "y", 1, 3)))
        self.assertEqual(unrolled(loop, 2).orders,
                         (("aa", "ba", 3, 1), ("ab", "bb", 3, 1), ("ba", "bb", 1, 1), ("bb", "ba", 1, 2)))
        self.assertEqual(unrolled(loop, 1).orders, (("aa", "ba", 3, 2), ("ba", "ba", 1, 3)))

    def test_the_order_of_what_is_read_stays(self):
        loop = Loop(Operation("z"), Operation("y", reads=(("z", 3), ("y", 1), ("z", 3))))
        self.assertEqual([one.reads for one in unrolled(loop, 2).operations],
                         [(("bb", 2), ("ab", 1), ("bb", 2)), (("ba", 1), ("aa", 0), ("ba", 1)), (), ()])

    def test_how_many(self):
        self.assertEqual([len(unrolled(Loop(Operation("q")), copies)) for copies in (1, 2, 8)], [1, 2, 8])
        self.assertEqual(unrolled(EIGHT, 1).names, tuple(letter + "a" for letter in "abcdefgh"))
        self.assertEqual([len(unrolled(SUM, 4)), len(unrolled(ROUND, 2))], [8, 6])
        for loop, copies in ((Loop(Operation("q")), 9), (SUM, 5), (ROUND, 3), (EIGHT, 2), (SUM, 10 ** 6)):
            kind, error = error_of(unrolled, loop, copies)
            self.assertIs(kind, TooMany)
            self.assertEqual(error.limit, 8)

    def test_played_beside_the_plain_loop(self):
        for loop in LOOPS:
            for copies in range(1, 8 // len(loop) + 1):
                wide = unrolled(loop, copies)
                told = dict(zip(wide.names, [(name, copy) for name in loop.names for copy in range(copies)]))

                def plain(name, turn, values):
                    return hash((name, turn, values))

                def copied(name, turn, values):
                    return plain(told[name][0], turn * copies + told[name][1], values)

                values, others = loop.played(3 * copies, plain), wide.played(3, copied)
                for letters, (name, copy) in told.items():
                    self.assertEqual(others[letters], values[name][copy::copies])

    def test_least_intervals(self):
        for loop in LOOPS:
            most = slow_ratio(loop)
            for copies in range(1, 8 // len(loop) + 1):
                wide = unrolled(loop, copies)
                told = unrolled_interval(loop, copies)
                self.assertEqual(told, max(1, ceil(copies * (most or 0))))
                if told <= 32:
                    self.assertEqual(free_interval(wide), told)
                    self.assertTrue(is_start_paper(wide, told, start_paper(wide, told)))

    def test_the_mean_and_the_ratio(self):
        for loop in LOOPS:
            most = slow_ratio(loop)
            if most:
                equal = [copies for copies in range(1, 25) if unrolled_interval(loop, copies) == copies * most]
                self.assertEqual(equal, [copies for copies in range(1, 25) if copies % best_copies(loop) == 0])

    def test_what_is_not_so(self):
        means = [Fraction(unrolled_interval(ROUND, copies), copies) for copies in (1, 2, 3)]
        self.assertEqual(means, [3, Fraction(5, 2), Fraction(8, 3)])
        # Here no arc has slack 0 at the least interval, and yet all are in the ring with the greatest ratio.
        self.assertEqual((slacks(ROUND, free_interval(ROUND)), critical(ROUND)), ((1, 1, 1), (0, 1, 2)))

    def test_tight_arcs_are_critical_ones_if_the_ratio_is_the_interval(self):
        seen = 0
        for loop in LOOPS:
            interval = free_interval(loop)
            if ratio(loop) == (interval, 1):
                seen += 1
                self.assertEqual(tuple(at for at, left in enumerate(slacks(loop, interval)) if left == 0),
                                 critical(loop))
        self.assertGreater(seen, 20)

    def test_many_copies(self):
        self.assertEqual(unrolled_interval(ROUND, 10 ** 6), 2500000)
        self.assertEqual(unrolled_interval(ROUND, 10 ** 6 - 1), 2499998)
        self.assertEqual(unrolled_interval(EIGHT, 10 ** 6), 10 ** 6)

    def test_more_than_eight_orders(self):
        self.assertEqual((len(WIDE), len(WIDE.orders)), (8, 32))
        self.assertEqual(WIDE.arcs, WIDE.orders)
        self.assertEqual(WIDE.orders, tuple(sorted(set(WIDE.orders))))
        self.assertTrue(all(0 <= order[3] <= 3 for order in WIDE.orders))
        names = {name: letter for name, letter in zip(WIDE.names, "hgfedcba")}
        for loop in (WIDE, WIDE.renamed(names), WIDE.renamed(names).renamed({new: old for old, new in names.items()})):
            interval = free_interval(loop)
            self.assertEqual(interval, unrolled_interval(loop, 1))
            starts = least_starts(loop, interval)
            self.assertTrue(is_fitting(loop, interval, starts))
            self.assertTrue(min(leeway(loop, interval, starts)) >= 0)
            self.assertEqual(faults(loop, Machine(), interval, starts), ())
            self.assertEqual(asked(loop, interval, starts), {})
            plan = Plan(loop, Machine(), interval, starts)
            self.assertEqual(plan.earliest(), plan)
            self.assertEqual(len(slacks(loop, interval)), 32)
            self.assertIsNotNone(gap(loop, interval, loop.names[0], loop.names[7]))
            self.assertTrue(is_ratio_paper(loop, ratio_paper(loop)))
            self.assertEqual(len(unrolled(loop, 1).orders), 32)
            self.assertIs(error_of(unrolled, loop, 2)[0], TooMany)
            self.assertTrue(set(critical(loop)) <= set(range(32)))


class Errors(unittest.TestCase):
    def test_loops(self):
        for wrong in all_kinds():
            if not isinstance(wrong, Loop):
                for call in (lambda: ratio(wrong), lambda: critical(wrong), lambda: ratio_paper(wrong),
                             lambda: is_ratio_paper(wrong, None), lambda: unrolled(wrong, 1),
                             lambda: unrolled(wrong, 0),
                             lambda: unrolled_interval(wrong, 0), lambda: best_copies(wrong)):
                    self.assertIs(error_of(call)[0], InvalidLoop, wrong)

    def test_copies(self):
        for wrong in (0, -1, 10 ** 6 + 1, True, None, "1", (1,), [1], {}, 10 ** 39, SUM):
            for call in (unrolled, unrolled_interval):
                kind, error = error_of(call, SUM, wrong)
                self.assertIs(kind, InvalidNumber, wrong)
                self.assertIs(error.value, wrong)
        self.assertIs(error_of(unrolled, EIGHT, 10 ** 6)[0], TooMany)
        self.assertIsNone(error_of(unrolled_interval, EIGHT, 10 ** 6)[0])


if __name__ == "__main__":
    unittest.main()
