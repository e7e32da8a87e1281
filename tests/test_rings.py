"""overrounds.loop.loops: the rings of a loop."""

import unittest
from inspect import isgenerator
from itertools import islice

from overrounds.errors import InvalidArgument, InvalidLoop
from overrounds.loop.loops import Loop, Operation

from samples import MEET, SUM, all_kinds, slow_rings, some_parts

ROUND = Loop(Operation("a", ticks=2, reads=(("c", 2),)), Operation("b", reads=(("a", 0),)),
             Operation("c", ticks=2, reads=(("b", 0),)))


class Rings(unittest.TestCase):
    def test_it_is_a_generator(self):
        self.assertTrue(isgenerator(SUM.rings()))

    def test_no_ring(self):
        self.assertEqual(list(Loop(Operation("a")).rings()), [])
        self.assertEqual(list(Loop(Operation("a"), Operation("b", reads=(("a", 0), ("a", 1)))).rings()), [])

    def test_rings_of_one_arc(self):
        self.assertEqual(list(SUM.rings()), [(1,)])
        loop = Loop(Operation("a", reads=(("a", 1), ("a", 2))), orders=(("a", "a", 0, 3),))
        self.assertEqual(list(loop.rings()), [(0,), (1,), (2,)])

    def test_several_arcs_between_two(self):
        loop = Loop(Operation("a", reads=(("b", 1), ("b", 2))), Operation("b", reads=(("a", 0), ("a", 1))),
                    orders=(("b", "b", 4, 1),))
        self.assertEqual(loop.arcs, (("a", "b", 1, 0), ("a", "b", 1, 1), ("b", "a", 1, 1), ("b", "a", 1, 2),
                                     ("b", "b", 4, 1)))
        self.assertEqual(list(loop.rings()), [(0, 2), (0, 3), (1, 2), (1, 3), (4,)])

    def test_each_begins_at_its_least_name(self):
        self.assertEqual(list(ROUND.rings()), [(0, 1, 2)])
        other = ROUND.renamed({"a": "c", "b": "a", "c": "b"})
        self.assertEqual(other.arcs, (("a", "b", 1, 0), ("b", "c", 2, 2), ("c", "a", 2, 0)))
        self.assertEqual(list(other.rings()), [(0, 1, 2)])
        back = Loop(Operation("a", reads=(("b", 1),)), Operation("b", reads=(("c", 1),)),
                    Operation("c", reads=(("a", 1), ("b", 1))))
        self.assertEqual(back.arcs, (("a", "c", 1, 1), ("b", "a", 1, 1), ("b", "c", 1, 1), ("c", "b", 1, 1)))
        self.assertEqual(list(back.rings()), [(0, 3, 1), (2, 3)])

    def test_all_rings_of_many_loops(self):
        seen = 0
        for seed in range(400):
            operations, orders = some_parts(seed)
            try:
                loop = Loop(*operations, orders=orders)
            except InvalidLoop:
                continue
            rings = list(loop.rings())
            seen += len(rings)
            self.assertEqual(rings, slow_rings(loop))
            for ring in rings:
                row = [loop.arcs[k] for k in ring]
                turned = ring[1:] + ring[:1]
                wanted = (sum(arc[2] for arc in row), sum(arc[3] for arc in row))
                self.assertEqual((loop.ring_sum(ring), loop.ring_sum(turned)), (wanted, wanted))
        self.assertGreater(seen, 200)

    def test_as_many_as_there_can_be(self):
        letters = "abcdefgh"
        rows = [Operation(name, reads=((before, 1), (before, 2), (before, 3)))
                for before, name in zip("h" + letters, letters)]
        loop = Loop(*rows)
        self.assertEqual(list(islice(loop.rings(), 2)), [(0, 3, 6, 9, 12, 15, 18, 21), (0, 3, 6, 9, 12, 15, 18, 22)])
        self.assertEqual(sum(1 for _ in loop.rings()), 3 ** 8)

    def test_two_generators_at_once(self):
        loop = Loop(Operation("a", reads=(("a", 1), ("a", 2))))
        one, other = loop.rings(), loop.rings()
        self.assertEqual([next(one), next(other), next(one), next(other)], [(0,), (0,), (1,), (1,)])


class Sums(unittest.TestCase):
    def test_ring_sum(self):
        self.assertEqual(SUM.ring_sum((1,)), (2, 1))
        self.assertEqual([ROUND.ring_sum(ring) for ring in ((0, 1, 2), (1, 2, 0), (2, 0, 1))], [(5, 2)] * 3)
        self.assertEqual(MEET.ring_sum((1, 0)), (2, 1))

    def test_delays_of_orders_count(self):
        loop = Loop(Operation("a"), Operation("b"), orders=(("a", "b", 4, 0), ("b", "a", 0, 3)))
        self.assertEqual((loop.ring_sum((0, 1)), loop.ring_sum((1, 0))), ((4, 3), (4, 3)))

    def test_what_is_no_ring(self):
        for wrong in [(), (0,), (1,), (0, 0), (1, 2), (0, 2), (1, 0, 2), (0, 1), (0, 1, 2, 0), (0, 1, 2, 0, 1, 2),
                      (0, 1, 3),
                      (0, 1, -1), [0, 1, 2], {0: 1}, (False, True, 2), (0, 1, None), (0, 1, "2"), ((0, 1, 2),),
                      (0, 1, (2,)), (0, 1, 10 ** 39), 0, "abc", None, ((0,), 1, 2)] + all_kinds():
            with self.assertRaises(InvalidArgument, msg=wrong):
                ROUND.ring_sum(wrong)

    def test_an_operation_comes_once_only(self):
        loop = Loop(Operation("a", reads=(("a", 1), ("b", 1))), Operation("b", reads=(("a", 0),)))
        self.assertEqual(loop.arcs, (("a", "a", 1, 1), ("a", "b", 1, 0), ("b", "a", 1, 1)))
        self.assertEqual((loop.ring_sum((0,)), loop.ring_sum((1, 2))), ((1, 1), (2, 1)))
        for wrong in ((0, 1, 2), (1, 2, 0), (0, 0), (1, 2, 1, 2)):
            with self.assertRaises(InvalidArgument):
                loop.ring_sum(wrong)

    def test_a_loop_without_arcs(self):
        for wrong in ((), (0,), (-1,)):
            with self.assertRaises(InvalidArgument):
                Loop(Operation("a")).ring_sum(wrong)


if __name__ == "__main__":
    unittest.main()
