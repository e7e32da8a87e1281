"""overrounds.change.changes: changed loops and machines, and which plans stay."""

import unittest
from itertools import combinations, product
from random import Random

from overrounds.change.changes import (carried, completed, fewest_moved, is_easier, is_fewest_moved, least_machines,
                                       with_operation, with_order, with_unit, without_operation, without_order)
from overrounds.errors import InvalidArgument, InvalidLoop, InvalidMachine, InvalidNumber, TooMany, UnknownName
from overrounds.loop.loops import Loop, Operation
from overrounds.plan.machines import Machine
from overrounds.plan.plans import is_plan
from overrounds.units.least import least_interval
from overrounds.units.trees import has_plan

from samples import (BOTH, FIVE, FOUR, MEET, NO_INTERVALS, P, ROUND, SUM, all_kinds, all_starts, error_of,
                     some_loops)

AB = Loop(Operation("a"), Operation("b", reads=(("a", 1),)), orders=(("a", "b", 2, 1), ("b", "a", 0, 2)))
EIGHT = Loop(*[Operation(name) for name in "abcdefgh"])
LOOPS = [loop for loop in some_loops(900, 20000) if len(loop) <= 3 and len(loop.asking) <= 4]
NO_NUMBERS = (True, False, None, "1", (1,), [1], {}, 10 ** 12, 10 ** 39, SUM)


def no_loops():
    return [wrong for wrong in all_kinds() + [P] if not isinstance(wrong, Loop)]


def no_machines():
    return [wrong for wrong in all_kinds() + [SUM] if not isinstance(wrong, Machine)]


class Operations(unittest.TestCase):
    def test_new_ones_and_others(self):
        more = with_operation(AB, Operation("c", reads=(("b", 0),)))
        self.assertEqual((more.names, more.orders, more["a"]), (("a", "b", "c"), AB.orders, AB["a"]))
        other = Operation("b", ticks=3, uses=(("p", 1),))
        self.assertEqual(with_operation(AB, other), Loop(Operation("a"), other, orders=AB.orders))
        self.assertEqual(with_operation(AB, AB["a"]), AB)
        self.assertEqual(AB["b"].ticks, 1)
        self.assertEqual(with_operation(more, Operation("c", reads=(("c", 1),)))["c"].reads, (("c", 1),))

    def test_no_such_loop(self):
        for wrong in (Operation("c", reads=(("d", 0),)), Operation("c", reads=(("c", 0),)),
                      Operation("a", reads=(("b", 0), ("x", 1)))):
            self.assertIs(error_of(with_operation, AB, wrong)[0], InvalidLoop)
        ring = Loop(Operation("a"), Operation("b", reads=(("a", 0),)))
        self.assertIs(error_of(with_operation, ring, Operation("a", reads=(("b", 0),)))[0], InvalidLoop)
        self.assertIsNone(error_of(with_operation, ring, Operation("a", reads=(("b", 1),)))[0])
        self.assertIs(error_of(with_operation, EIGHT, Operation("i"))[0], InvalidLoop)
        self.assertIsNone(error_of(with_operation, EIGHT, Operation("h", ticks=2))[0])
        for wrong in [one for one in all_kinds() if not isinstance(one, Operation)]:
            self.assertIs(error_of(with_operation, AB, wrong)[0], InvalidArgument, wrong)
        for wrong in no_loops():
            self.assertIs(error_of(with_operation, wrong, None)[0], InvalidLoop, wrong)

    def test_without(self):
        more = with_operation(AB, Operation("c", reads=(("b", 0),)))
        self.assertEqual(without_operation(more, "c"), AB)
        self.assertEqual(without_operation(AB, "b"), Loop(Operation("a")))
        both = with_order(more, ("c", "c", 4, 1))
        self.assertEqual(without_operation(both, "c"), AB)
        three = Loop(*[Operation(name) for name in "abc"],
                     orders=(("a", "b", 0, 0), ("a", "c", 0, 0), ("b", "c", 0, 0), ("c", "c", 1, 1)))
        self.assertEqual(without_operation(three, "b").orders, (("a", "c", 0, 0), ("c", "c", 1, 1)))

    def test_without_the_last_one_and_one_that_is_read(self):
        self.assertIs(error_of(without_operation, Loop(Operation("a")), "a")[0], InvalidLoop)
        self.assertIs(error_of(without_operation, AB, "a")[0], InvalidLoop)
        alone = Loop(Operation("a", reads=(("a", 1),)), Operation("b"))
        self.assertEqual(without_operation(alone, "a"), Loop(Operation("b")))
        for wrong in ["c", 0, *all_kinds()]:
            if wrong != "a":
                kind, error = error_of(without_operation, AB, wrong)
                self.assertIs(kind, UnknownName, wrong)
                self.assertIs(error.wanted, wrong)
        for wrong in no_loops():
            self.assertIs(error_of(without_operation, wrong, "x")[0], InvalidLoop, wrong)


class Orders(unittest.TestCase):
    def test_with(self):
        self.assertEqual(with_order(AB, ("a", "b", 2, 1)), AB)
        more = with_order(AB, ("a", "a", 4, 3))
        self.assertEqual(more.orders, (("a", "a", 4, 3), ("a", "b", 2, 1), ("b", "a", 0, 2)))
        self.assertEqual((more.operations, len(AB.orders)), (AB.operations, 2))
        # An arc of a reading is no order yet.
        self.assertEqual(len(with_order(AB, ("a", "b", 1, 1)).orders), 3)

    def test_the_ninth(self):
        orders = tuple(("a", "b", delay, distance) for delay in range(4) for distance in (1, 2))
        loop = Loop(Operation("a"), Operation("b"), orders=orders)
        self.assertIs(error_of(with_order, loop, ("a", "b", 4, 1))[0], InvalidLoop)
        self.assertEqual(with_order(loop, ("a", "b", 3, 2)), loop)
        self.assertEqual(with_order(without_order(loop, ("a", "b", 0, 1)), ("a", "b", 0, 1)), loop)

    def test_a_ring_of_distance_0(self):
        for wrong in (("a", "a", 0, 0), ("b", "b", 4, 0)):
            self.assertIs(error_of(with_order, AB, wrong)[0], InvalidLoop)
        loop = Loop(Operation("a"), Operation("b", reads=(("a", 0),)))
        self.assertIs(error_of(with_order, loop, ("b", "a", 0, 0))[0], InvalidLoop)
        self.assertIsNone(error_of(with_order, loop, ("b", "a", 0, 1))[0])

    def test_what_is_no_order(self):
        for wrong in [("a", "b", 5, 0), ("a", "b", -1, 0), ("a", "b", 0, 4), ("a", "b", 0, -1), ("a", "c", 0, 0),
                      ("c", "a", 0, 0), ("a", "b", True, 1), ("a", "b", 2, True), ("a", "b", 2), ("a", "b", 2, 1, 0),
                      ["a", "b", 2, 1], ("a", ["b"], 2, 1), ("a", "b", None, 1), ("b", "a", False, 2), *all_kinds()]:
            self.assertIs(error_of(with_order, AB, wrong)[0], InvalidArgument, wrong)
            self.assertIs(error_of(without_order, AB, wrong)[0], InvalidArgument, wrong)
        for wrong in no_loops():
            self.assertIs(error_of(with_order, wrong, None)[0], InvalidLoop, wrong)
            self.assertIs(error_of(without_order, wrong, None)[0], InvalidLoop, wrong)

    def test_without(self):
        self.assertEqual(without_order(AB, ("a", "b", 2, 1)), Loop(*AB.operations, orders=(("b", "a", 0, 2),)))
        for wrong in (("a", "b", 1, 1), ("a", "b", 2, 2), ("b", "b", 2, 1)):
            self.assertIs(error_of(without_order, AB, wrong)[0], InvalidArgument)


class Units(unittest.TestCase):
    def test_with_unit(self):
        self.assertEqual(with_unit(P, "p", 3), Machine(p=3))
        self.assertEqual(with_unit(P, "q", 1), Machine(p=1, q=1))
        self.assertEqual((with_unit(P, "p", 0), with_unit(P, "q", 0), P), (Machine(), P, Machine(p=1)))
        self.assertEqual(with_unit(Machine(), "self", 2), Machine.of({"self": 2}))
        self.assertEqual(list(with_unit(Machine(b=1, c=1), "a", 1).units), ["a", "b", "c"])

    def test_wrong_numbers_and_a_fourth_unit(self):
        full = Machine(a=1, b=2, c=3)
        self.assertIs(error_of(with_unit, full, "d", 1)[0], InvalidMachine)
        self.assertEqual(with_unit(full, "d", 0), full)
        self.assertEqual(with_unit(with_unit(full, "a", 0), "d", 1), Machine(b=2, c=3, d=1))
        for wrong in (4, -1, *NO_NUMBERS):
            kind, error = error_of(with_unit, P, "p", wrong)
            self.assertIs(kind, InvalidNumber, wrong)
            self.assertIs(error.value, wrong)
        for wrong in ["", "A", "abcdefghi", None, 1, ("p",), *all_kinds()]:
            self.assertIs(error_of(with_unit, P, wrong, -1)[0], InvalidArgument, wrong)
        for wrong in no_machines():
            self.assertIs(error_of(with_unit, wrong, "", -1)[0], InvalidMachine, wrong)


def slow_carried(loop, source, target, distance):
    """The greatest delay, by all rows of arcs up to a length."""
    best = 0 if source == target else None
    rows = [(source, 0, 0)]
    # Between two arcs with a distance a row visits each operation at most once.
    for _ in range((distance + 1) * len(loop)):
        rows = list({(arc[1], delay + arc[2], gone + arc[3]) for here, delay, gone in rows for arc in loop.arcs
                     if arc[0] == here and gone + arc[3] <= distance})
        delays = [delay for here, delay, gone in rows if here == target]
        best = max([*delays, best if best is not None else -1]) if delays or best is not None else None
    return best


class Carried(unittest.TestCase):
    def test_against_all_rows(self):
        kinds = set()
        for loop in LOOPS[:120] + [ROUND]:
            for source, target in product(loop.names, repeat=2):
                for distance in range(4):
                    told = carried(loop, source, target, distance)
                    self.assertEqual(told, slow_carried(loop, source, target, distance), (loop.arcs, source, target))
                    kinds.add((told is None, source == target, distance))
        self.assertEqual(len({kind for kind in kinds if kind[0]}), 4)
        self.assertEqual(carried(EIGHT, "a", "a", 0), 0)
        self.assertIsNone(carried(EIGHT, "a", "b", 3))

    def test_errors(self):
        for wrong in no_loops():
            self.assertIs(error_of(carried, wrong, "x", "y", -1)[0], InvalidLoop, wrong)
        for wrong in ["x", 0, *all_kinds()]:
            for call in (lambda: carried(SUM, wrong, None, -1), lambda: carried(SUM, "sum", wrong, -1)):
                kind, error = error_of(call)
                self.assertIs(kind, UnknownName, wrong)
                self.assertIs(error.wanted, wrong)
        for wrong in (4, -1, *NO_NUMBERS):
            kind, error = error_of(carried, SUM, "sum", "sum", wrong)
            self.assertIs(kind, InvalidNumber, wrong)
            self.assertIs(error.value, wrong)


def slow_easier(loop, machine, other, units):
    if loop.names != other.names:
        return False
    for source, target, delay, distance in loop.arcs:
        most = slow_carried(other, source, target, distance)
        if most is None or most < delay:
            return False
    if any(not set(loop[name].uses) <= set(other[name].uses) for name in loop):
        return False
    return all(machine.units.get(unit, 0) >= units.units.get(unit, 0) for unit in loop.units)


def changed(draw, loop):
    """A loop with the same names that is a little different."""
    operations = []
    for one in loop.operations:
        reads = tuple((name, min(3, distance + draw.choice((0, 0, 0, 1)))) for name, distance in one.reads)
        uses = tuple(pair for pair in one.uses if draw.random() < 0.8)
        operations.append(Operation(one.name, ticks=max(1, one.ticks - draw.choice((0, 0, 1))),
                                    reads=reads[:draw.choice((3, 3, 1))], uses=uses))
    return Loop(*operations, orders=loop.orders[:draw.choice((8, 8, 1))])


class Easier(unittest.TestCase):
    def test_against_the_words(self):
        draw, seen = Random(4), {True: 0, False: 0}
        for loop in LOOPS[:200]:
            other = changed(draw, loop)
            one, two = [Machine.of({unit: draw.randint(1, 3) for unit in "pq" if draw.random() < 0.9}) for _ in "ab"]
            for told in ((other, one, loop, two), (loop, one, other, two), (other, two, loop, one)):
                wanted = slow_easier(*told)
                self.assertIs(is_easier(*told), wanted)
                seen[wanted] += 1
        self.assertGreater(min(seen.values()), 50)

    def test_plans_stay(self):
        draw, seen = Random(9), 0
        for loop in [one for one in LOOPS if one.units][:150]:
            other = changed(draw, loop)
            units = Machine.of({unit: draw.randint(1, 2) for unit in loop.units})
            machine = Machine.of({unit: min(3, units[unit] + draw.choice((0, 1))) for unit in loop.units})
            if not is_easier(other, machine, loop, units):
                continue
            for interval in (1, 2, 4, 7):
                for starts in all_starts(loop, range(7)):
                    if is_plan(loop, units, interval, starts):
                        self.assertTrue(is_plan(other, machine, interval, starts))
                        seen += 1
        self.assertGreater(seen, 500)

    def test_rows_of_arcs(self):
        chain = Loop(Operation("a", ticks=2), Operation("b", reads=(("a", 0),)), Operation("c", reads=(("b", 1),)))
        for order, wanted in ((("a", "c", 3, 1), True), (("a", "c", 4, 1), False), (("a", "c", 3, 0), False),
                              (("a", "c", 3, 3), True), (("a", "c", 0, 0), False), (("c", "a", 0, 3), False),
                              (("b", "b", 0, 1), True), (("b", "b", 1, 3), False), (("a", "b", 2, 0), True)):
            loop = Loop(*[Operation(name) for name in "abc"], orders=(order,))
            self.assertIs(is_easier(loop, P, chain, P), wanted, order)

    def test_names_and_units(self):
        self.assertIs(is_easier(Loop(Operation("a")), P, Loop(Operation("b")), P), False)
        self.assertIs(is_easier(Loop(Operation("a")), P, EIGHT, P), False)
        using, free = Loop(Operation("a", uses=(("p", 0),))), Loop(Operation("a"))
        two = Machine(p=2)
        for told, wanted in (((using, P, using, P), True), ((using, P, using, two), False),
                             ((using, two, using, P), True),
                             ((free, P, using, two), True), ((free, Machine(), using, P), True),
                             ((using, P, free, P), False), ((using, Machine(), using, Machine(q=1)), True),
                             ((using, Machine(), using, P), False), ((using, P, using, Machine()), True)):
            self.assertIs(is_easier(*told), wanted, told)

    def test_errors(self):
        for wrong in no_loops():
            self.assertIs(error_of(is_easier, wrong, None, None, None)[0], InvalidLoop, wrong)
            self.assertIs(error_of(is_easier, SUM, P, wrong, None)[0], InvalidLoop, wrong)
        for wrong in no_machines():
            self.assertIs(error_of(is_easier, SUM, wrong, None, None)[0], InvalidMachine, wrong)
            self.assertIs(error_of(is_easier, SUM, P, SUM, wrong)[0], InvalidMachine, wrong)


def some_givens(seed, many):
    """Loops with machines, intervals and given starts."""
    draw, found = Random(seed), []
    for loop in LOOPS[:many]:
        machine = Machine.of({unit: draw.choice((1, 1, 2)) for unit in loop.units})
        given = {name: draw.randint(0, 6) for name in loop if draw.random() < 0.7}
        found.append((loop, machine, draw.randint(1, 4), given))
    return found


def slow_completed(loop, machine, interval, given):
    """Whether some plan in a wide window has the given starts."""
    free = [name for name in loop if name not in given]
    for row in product(range(24 if len(free) < 3 else 15), repeat=len(free)):
        if is_plan(loop, machine, interval, {**given, **dict(zip(free, row))}):
            return True
    return False


GIVENS = some_givens(11, 130)


class Given(unittest.TestCase):
    def test_completed(self):
        seen = {True: 0, False: 0}
        for loop, machine, interval, given in GIVENS:
            before = dict(given)
            starts = completed(loop, machine, interval, given)
            self.assertEqual(given, before)
            wanted = slow_completed(loop, machine, interval, given)
            self.assertEqual(starts is not None, wanted, (loop.arcs, interval, given))
            seen[wanted] += 1
            if starts is not None:
                self.assertTrue(is_plan(loop, machine, interval, starts))
                self.assertEqual({name: starts[name] for name in given}, given)
                self.assertEqual(list(starts), list(loop.names))
        self.assertGreater(min(seen.values()), 30)

    def test_fewest_moved(self):
        seen = set()
        for loop, machine, interval, given in GIVENS:
            names = sorted(given)
            moved = fewest_moved(loop, machine, interval, given)
            if not slow_completed(loop, machine, interval, {}):
                self.assertIsNone(moved)
                self.assertIs(is_fewest_moved(loop, machine, interval, given, None), True)
                self.assertIs(is_fewest_moved(loop, machine, interval, given, ()), False)
                continue
            parts = [part for many in range(len(names) + 1) for part in combinations(names, many)]
            good = [part for part in parts if slow_completed(loop, machine, interval,
                                                             {name: given[name] for name in given
                                                                                       if name not in part})]
            least = [part for part in good if len(part) == len(good[0])]
            self.assertIn(moved, least)
            self.assertEqual([part for part in parts if is_fewest_moved(loop, machine, interval, given, part)], least)
            self.assertIs(is_fewest_moved(loop, machine, interval, given, None), False)
            seen.add((len(moved), len(least)))
        self.assertTrue({(0, 1), (1, 1), (1, 2), (2, 2)} <= seen)

    def test_what_is_not_as_few_names_as_possible(self):
        given = {"u": 0, "v": 2}
        self.assertEqual([is_fewest_moved(MEET, P, 3, given, (name,)) for name in "uv"], [True, True])
        for wrong in [(), ("u", "v"), ["v"], "v", ("x",), ("v", "v"), (1,), (["v"],), {"v": 0}, None, *all_kinds()]:
            self.assertIs(is_fewest_moved(MEET, P, 3, given, wrong), False, wrong)
        self.assertIs(is_fewest_moved(MEET, P, 3, {"u": 5}, ("v",)), False)
        self.assertIs(is_fewest_moved(MEET, P, 3, {"u": 5}, ()), True)
        three = Loop(*[Operation(name, uses=(("p", 0),)) for name in "abc"])
        same = {"a": 0, "b": 0, "c": 0}
        self.assertEqual([part for part in (("a", "b"), ("b", "a"), ("a", "c"), ("a", "a"), ("b", "c"))
                          if is_fewest_moved(three, P, 3, same, part)], [("a", "b"), ("a", "c"), ("b", "c")])

    def test_bounds_of_starts(self):
        loop = Loop(Operation("a"), Operation("b", reads=(("a", 0),), uses=(("p", 0),)),
                    Operation("c", uses=(("p", 0),)))
        self.assertEqual(completed(loop, P, 2, {"a": 10 ** 6 - 1})["b"], 10 ** 6)
        self.assertIsNone(completed(loop, P, 2, {"a": 10 ** 6}))
        self.assertIsNone(completed(loop, P, 2, {"b": 0}))
        self.assertEqual(completed(loop, P, 2, {"b": 1})["a"], 0)
        # With both ends given, only the slots in between are left.
        self.assertIsNone(completed(loop, P, 2, {"b": 10 ** 6, "c": 0}))
        self.assertEqual(completed(loop, P, 2, {"b": 10 ** 6, "c": 1})["c"], 1)
        self.assertEqual(fewest_moved(loop, P, 2, {"a": 10 ** 6}), ("a",))
        self.assertEqual(fewest_moved(loop, P, 2, {"a": 0, "b": 10 ** 6, "c": 0}), ("b",))

    def test_no_given_starts_and_no_plan(self):
        self.assertTrue(is_plan(MEET, P, 3, completed(MEET, P, 3, {})))
        self.assertEqual((completed(MEET, P, 2, {}), completed(MEET, P, 2, {"u": 0})), (None, None))
        self.assertEqual((fewest_moved(MEET, P, 2, {"u": 0}), fewest_moved(MEET, P, 3, {})), (None, ()))
        for wrong in [(), ("u",), ("u", "v"), *all_kinds()]:
            self.assertIs(is_fewest_moved(MEET, P, 2, {"u": 0}, wrong), wrong is None, wrong)

    def test_operations_without_units_can_be_given(self):
        # Behind g and ahead of h there is room for just three of four operations.
        orders = [("g", name, 1, 0) for name in "abcd"] + [(name, "h", 1, 0) for name in "abcd"]
        loop = Loop(*[Operation(name, uses=(("p", 0),)) for name in "abcd"], Operation("g"), Operation("h"),
                    orders=tuple(sorted(orders)))
        self.assertIsNone(completed(loop, P, 32, {"g": 7, "h": 11}))
        self.assertEqual(sorted(completed(loop, P, 32, {"g": 7, "h": 12}).values()), [7, 8, 9, 10, 11, 12])
        self.assertIn(fewest_moved(loop, P, 32, {"g": 7, "h": 11, "a": 8, "b": 8}), [("b", "g"), ("b", "h"), ("a", "g"),
                                                                                  ("a", "h"), ("g",), ("h",)])

    def test_what_are_no_given_starts(self):
        for wrong in [{"x": 0}, {"u": -1}, {"u": 10 ** 6 + 1}, {"u": True}, {"u": None}, {"u": "0"}, {"u": (0,)},
                      {1: 0},
                      {("u",): 0}, {None: 0}, [("u", 0)], ("u",), None, "u", P,
                      *[one for one in all_kinds() if one != {}]]:
            for call in (completed, fewest_moved, lambda *told: is_fewest_moved(*told, None)):
                self.assertIs(error_of(call, MEET, P, 3, wrong)[0], InvalidArgument, wrong)

    def test_errors(self):
        for call in (completed, fewest_moved, lambda *told: is_fewest_moved(*told, None)):
            for wrong in no_loops():
                self.assertIs(error_of(call, wrong, None, 0, None)[0], InvalidLoop, wrong)
            for wrong in no_machines():
                self.assertIs(error_of(call, SUM, wrong, 0, None)[0], InvalidMachine, wrong)
            for wrong in NO_INTERVALS:
                kind, error = error_of(call, SUM, P, wrong, None)
                self.assertIs(kind, InvalidNumber)
                self.assertIs(error.value, wrong)
            self.assertIs(error_of(call, SUM, P, 2, {})[0], InvalidArgument)
            kind, error = error_of(call, FIVE, P, 5, {})
            self.assertEqual((kind, error.limit), (TooMany, 4))
            self.assertIs(error_of(call, FIVE, P, 5, {"x": 0})[0], InvalidArgument)
            self.assertIsNone(error_of(call, FOUR, P, 5, {"e": 3})[0])


def slow_least_machines(loop, interval):
    """The numbers of the least machines, by all machines with a plan."""
    good = [row for row in product((1, 2, 3), repeat=len(loop.units))
            if has_plan(loop, Machine.of(dict(zip(loop.units, row))), interval)]
    return [row for row in good if not any(other != row and all(one <= two for one, two in zip(other, row))
                                           for other in good)]


class Machines(unittest.TestCase):
    def test_against_all_machines(self):
        counts = set()
        for loop in LOOPS[:150]:
            for interval in (1, 2, 3, 5):
                told = least_machines(loop, interval)
                self.assertEqual([tuple(one.units[unit] for unit in loop.units) for one in told],
                                 slow_least_machines(loop, interval))
                self.assertTrue(all(type(one) is Machine and tuple(one) == loop.units for one in told))
                counts.add(len(told))
        self.assertTrue({0, 1, 2} <= counts)

    def test_no_units_and_many(self):
        self.assertEqual((least_machines(ROUND, 3), least_machines(ROUND, 2)), ((Machine(),), ()))
        four = Loop(Operation("a", uses=(("p", 0), ("q", 0), ("r", 0), ("s", 0))))
        self.assertEqual(least_machines(four, 32), ())
        three = Loop(Operation("a", uses=(("p", 0), ("q", 0), ("self", 0))))
        self.assertEqual([one.units for one in least_machines(three, 1)], [{"p": 1, "q": 1, "self": 1}])
        self.assertEqual(least_machines(Loop(Operation("a", uses=tuple(("p", at) for at in range(4)))), 1), ())

    def test_errors(self):
        for wrong in no_loops():
            self.assertIs(error_of(least_machines, wrong, 0)[0], InvalidLoop, wrong)
        for wrong in NO_INTERVALS:
            kind, error = error_of(least_machines, FIVE, wrong)
            self.assertIs(kind, InvalidNumber)
            self.assertIs(error.value, wrong)
        kind, error = error_of(least_machines, FIVE, 5)
        self.assertEqual((kind, error.limit), (TooMany, 4))
        self.assertEqual([one.units for one in least_machines(FOUR, 2)], [{"p": 2}])


class NotTrue(unittest.TestCase):
    """The sentences of [12.4]."""

    def test_plans_can_be_completed_with_an_operation_that_nobody_reads(self):
        loop = Loop(Operation("a", uses=(("p", 0),)), Operation("b", uses=(("p", 0),)))
        starts = {"a": 0, "b": 3}
        self.assertTrue(is_plan(loop, P, 6, starts))
        more = with_operation(loop, Operation("c", uses=(("p", 0), ("p", 1), ("p", 2))))
        self.assertTrue(has_plan(more, P, 6))
        self.assertIsNone(completed(more, P, 6, starts))
        self.assertEqual([names for names in (("a",), ("b",)) if is_fewest_moved(more, P, 6, starts, names)],
                         [("a",), ("b",)])

    def test_the_start_that_has_to_go_is_always_the_same(self):
        given = {"u": 0, "v": 2}
        self.assertIsNone(completed(MEET, P, 3, given))
        self.assertEqual([is_fewest_moved(MEET, P, 3, given, (name,)) for name in "uv"], [True, True])

    def test_there_is_at_most_one_least_machine(self):
        found = [loop for loop in LOOPS[:150] if len(least_machines(loop, 2)) > 1]
        self.assertTrue(found)
        # Each operation can do without one of the two, but not without both.
        one = found[0]
        numbers = [tuple(machine.units.values()) for machine in least_machines(one, 2)]
        self.assertEqual(numbers, sorted(numbers))


class Whole(unittest.TestCase):
    def test_what_is_passed_stays(self):
        loop = Loop(*SUM.operations)
        given = {"sum": 7}
        for call in (lambda: with_operation(loop, Operation("sum")), lambda: without_operation(loop, "sum"),
                     lambda: with_order(loop, ("sum", "item", 0, 1)), lambda: completed(loop, BOTH, 3, given),
                     lambda: fewest_moved(loop, BOTH, 3, given)):
            call()
            self.assertEqual((loop, given, BOTH), (SUM, {"sum": 7}, Machine(add=1, mem=1)))

    def test_easier_ones_have_lesser_intervals(self):
        draw = Random(2)
        for loop in LOOPS[:80]:
            machine = Machine.of({unit: 1 for unit in loop.units})
            other = changed(draw, loop)
            if is_easier(other, machine, loop, machine):
                self.assertLessEqual(least_interval(other, machine), least_interval(loop, machine))


if __name__ == "__main__":
    unittest.main()
