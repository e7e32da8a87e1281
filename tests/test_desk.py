"""overrounds.live.desk: a loop and a machine under changes."""

import unittest
from random import Random

from overrounds.change.changes import with_operation, with_order, with_unit, without_operation, without_order
from overrounds.errors import (Broken, InvalidArgument, InvalidLoop, InvalidMachine, InvalidNumber, NothingToUndo,
                               TooMany, UnknownName)
from overrounds.file.spans import spans_of
from overrounds.file.turning import least_turning
from overrounds.live import desk as module
from overrounds.live.desk import Desk
from overrounds.loop.loops import Loop, Operation
from overrounds.plan.machines import Machine
from overrounds.plan.plans import Plan, is_plan
from overrounds.rings.ratios import unrolled
from overrounds.units.least import least_interval
from overrounds.units.trees import interval_paper

from samples import BOTH, FIVE, FOUR, MEET, NO_INTERVALS, P, SUM, all_kinds, error_of, machine_for, some_loops

EIGHT = Loop(*[Operation(name) for name in "abcdefgh"])
NO_NUMBERS = (True, False, None, "1", (1,), [1], {}, 10 ** 12, 10 ** 39, SUM)


def seen(desk):
    """All that can be seen of a desk."""
    return (desk.loop, desk.machine, desk.interval, desk.starts, desk.least, desk.registers, desk.pins, len(desk),
            list(desk), str(desk))


def planned(pins=()):
    """A desk with the plan {"u": 0, "v": 1} and the interval 3."""
    desk = Desk(MEET, P)
    desk.take(3, {"u": 0, "v": 1})
    for pin in pins:
        desk.pin(pin)
    return desk


class Made(unittest.TestCase):
    def test_constant(self):
        self.assertEqual(module.MAX_PINS, 12)

    def test_a_new_desk(self):
        desk = Desk(MEET, P)
        self.assertEqual(seen(desk), (MEET, P, None, None, 3, None, (), 0, ["u", "v"],
                                      "desk of 2 operations, no plan, 0 pins"))
        for name in ("loop", "machine", "interval", "starts", "least", "registers", "pins"):
            with self.assertRaises(AttributeError):
                setattr(desk, name, None)

    def test_errors(self):
        for wrong in all_kinds() + [P]:
            if not isinstance(wrong, Loop):
                self.assertIs(error_of(Desk, wrong, None)[0], InvalidLoop, wrong)
            if not isinstance(wrong, Machine):
                self.assertIs(error_of(Desk, SUM, wrong)[0], InvalidMachine, wrong)
        self.assertIs(error_of(Desk, SUM, P)[0], InvalidArgument)
        kind, error = error_of(Desk, FIVE, P)
        self.assertEqual((kind, error.limit), (TooMany, 4))
        self.assertIs(error_of(Desk, FIVE, Machine())[0], InvalidArgument)
        self.assertEqual(Desk(FOUR, P).least, 4)

    def test_nothing_returned_gives_access(self):
        desk = planned()
        desk.starts["u"] = 9
        desk.starts.clear()
        desk.machine.units["p"] = 3
        given = {"u": 3, "v": 4}
        desk.take(3, given)
        given["u"] = 0
        self.assertEqual((desk.starts, list(desk.starts)), ({"u": 3, "v": 4}, ["u", "v"]))
        desk.take(3, {"v": 4, "u": 3})
        self.assertEqual(list(desk.starts), ["u", "v"])

    def test_wide_loops(self):
        loop = unrolled(Loop(Operation("a"), Operation("b"), orders=tuple(("a", "b", delay, 1) for delay in range(5))),
                        3)
        desk = Desk(loop, Machine())
        desk.unit("p", 1)
        self.assertEqual((desk.least, desk.loop), (1, loop))


class Calls(unittest.TestCase):
    def test_put(self):
        desk = planned()
        self.assertIsNone(desk.put(Operation("u", ticks=1, uses=(("p", 0),))))
        # The old start stays, and so does the plan.
        self.assertEqual((desk.interval, desk.starts, desk.loop["u"].reads), (3, {"u": 0, "v": 1}, ()))
        desk.put(Operation("w"))
        self.assertEqual((desk.interval, desk.starts, desk.registers), (None, None, None))
        desk.put(Operation("x"), start=4)
        self.assertEqual((desk.interval, desk.loop.names), (None, ("u", "v", "w", "x")))
        desk = planned()
        desk.put(Operation("w", uses=(("p", 1),)), start=0)
        self.assertEqual((desk.interval, desk.starts), (3, {"u": 0, "v": 1, "w": 0}))
        # Another start in the place of the old one; a start that fits the loop, but not the machine.
        desk.put(Operation("w", uses=(("p", 1),)), start=3)
        self.assertEqual(desk.starts, {"u": 0, "v": 1, "w": 3})
        desk.put(Operation("w", uses=(("p", 1),)), start=1)
        self.assertIsNone(desk.starts)
        desk = planned()
        desk.put(Operation("u", ticks=2, reads=(("v", 1),), uses=(("p", 0),)))
        self.assertEqual((desk.starts, desk.least), (None, 4))

    def test_put_that_is_wrong(self):
        desk = planned()
        before = seen(desk)
        for wrong in [one for one in all_kinds() if not isinstance(one, Operation)]:
            self.assertIs(error_of(desk.put, wrong, start=-1)[0], InvalidArgument, wrong)
        for wrong in (-1, 10 ** 6 + 1, True, False, "0", (0,), 10 ** 39):
            kind, error = error_of(desk.put, Operation("w", reads=(("x", 1),)), start=wrong)
            self.assertIs(kind, InvalidNumber)
            self.assertIs(error.value, wrong)
        self.assertIs(error_of(desk.put, Operation("w", reads=(("x", 1),), uses=(("q", 0),)))[0], InvalidLoop)
        self.assertIs(error_of(desk.put, Operation("w", uses=(("q", 0),)))[0], InvalidArgument)
        self.assertIs(error_of(Desk(EIGHT, P).put, Operation("i"))[0], InvalidLoop)
        self.assertIs(error_of(Desk(FOUR, P).put, Operation("f", uses=(("q", 0),)))[0], InvalidArgument)
        kind, error = error_of(Desk(FOUR, P).put, Operation("f", uses=(("p", 0),)))
        self.assertEqual((kind, error.limit), (TooMany, 4))
        desk.pin(("start", "u", 0))
        # There are five operations with units, too, but this comes ahead of the pin.
        many = Desk(Loop(*[Operation(name, uses=(("p", 0),)) for name in "abcd"]), P)
        many.take(4, dict(zip("abcd", range(4))))
        many.pin(("interval", 4))
        self.assertIs(error_of(many.put, Operation("e", uses=(("p", 0),)))[0], TooMany)
        self.assertEqual(desk.undo(), 1)
        self.assertEqual(seen(desk), before)

    def test_drop(self):
        desk = planned()
        desk.put(Operation("w"), start=7)
        self.assertIsNone(desk.drop("w"))
        self.assertEqual((desk.loop, desk.interval, desk.starts), (MEET, 3, {"u": 0, "v": 1}))
        self.assertIs(error_of(desk.drop, "u")[0], InvalidLoop)
        for wrong in ["x", 0, *all_kinds()]:
            kind, error = error_of(desk.drop, wrong)
            self.assertIs(kind, UnknownName, wrong)
            self.assertIs(error.wanted, wrong)
        alone = Desk(Loop(Operation("a")), P)
        self.assertIs(error_of(alone.drop, "a")[0], InvalidLoop)
        bare = Desk(EIGHT, P)
        bare.drop("a")
        self.assertEqual((bare.loop.names, bare.starts), (tuple("bcdefgh"), None))

    def test_order_and_lift(self):
        desk = planned()
        self.assertIsNone(desk.order(("u", "v", 1, 0)))
        self.assertEqual((desk.loop.orders, desk.starts), ((("u", "v", 1, 0),), {"u": 0, "v": 1}))
        desk.order(("u", "v", 2, 0))
        self.assertIsNone(desk.starts)
        self.assertIsNone(desk.lift(("u", "v", 2, 0)))
        self.assertEqual(desk.loop.orders, (("u", "v", 1, 0),))
        self.assertIsNone(desk.starts)
        self.assertIs(error_of(desk.lift, ("u", "v", 2, 0))[0], InvalidArgument)
        self.assertIs(error_of(desk.lift, ("u", "v", True, 0))[0], InvalidArgument)
        self.assertIs(error_of(desk.order, ("v", "u", 0, 0))[0], InvalidLoop)
        for wrong in [("u", "x", 0, 0), ("u", "v", 5, 0), *all_kinds()]:
            self.assertIs(error_of(desk.order, wrong)[0], InvalidArgument)
            self.assertIs(error_of(desk.lift, wrong)[0], InvalidArgument)
        self.assertEqual(len(desk), 4)

    def test_unit(self):
        desk = planned()
        self.assertIsNone(desk.unit("p", 3))
        self.assertEqual((desk.machine, desk.starts, desk.least), (Machine(p=3), {"u": 0, "v": 1}, 2))
        desk.take(2, {"u": 0, "v": 1})
        desk.unit("p", 1)
        self.assertEqual((desk.machine, desk.starts), (P, None))
        desk.unit("q", 2)
        desk.unit("q", 0)
        self.assertEqual(desk.machine, P)
        self.assertIs(error_of(desk.unit, "p", 0)[0], InvalidArgument)
        desk.unit("q", 1)
        desk.unit("r", 1)
        self.assertIs(error_of(desk.unit, "s", 1)[0], InvalidMachine)
        for wrong in (4, -1, *NO_NUMBERS):
            kind, error = error_of(desk.unit, "p", wrong)
            self.assertIs(kind, InvalidNumber, wrong)
            self.assertIs(error.value, wrong)
        for wrong in ["", "A", *all_kinds()]:
            self.assertIs(error_of(desk.unit, wrong, -1)[0], InvalidArgument, wrong)

    def test_take_and_clear(self):
        desk = Desk(MEET, P)
        self.assertIsNone(desk.take(5, {"u": 10 ** 6 - 1, "v": 10 ** 6}))
        self.assertEqual((desk.interval, desk.registers), (5, 1))
        self.assertIsNone(desk.clear())
        self.assertEqual((desk.interval, desk.starts, len(desk)), (None, None, 2))
        self.assertIsNone(desk.clear())
        for wrong in NO_INTERVALS:
            kind, error = error_of(desk.take, wrong, None)
            self.assertIs(kind, InvalidNumber)
            self.assertIs(error.value, wrong)
        for wrong in [{"u": 0, "v": 0}, {"u": 0}, {"u": 0, "v": 2}, {"u": False, "v": 1}, *all_kinds()]:
            self.assertIs(error_of(desk.take, 3, wrong)[0], InvalidArgument, wrong)
        self.assertEqual(len(desk), 3)

    def test_move(self):
        desk = planned()
        desk.put(Operation("w"), start=7)
        self.assertIsNone(desk.move("w", 10 ** 6))
        self.assertEqual(desk.starts, {"u": 0, "v": 1, "w": 10 ** 6})
        before = seen(desk)
        for wrong in (0, 2, 3, -1, 10 ** 6 + 1, 10 ** 12 - 1):
            self.assertIs(error_of(desk.move, "v", wrong)[0], InvalidArgument)
        self.assertIs(error_of(desk.move, "w", -1)[0], InvalidArgument)
        for wrong in ["x", 0, *all_kinds()]:
            kind, error = error_of(desk.move, wrong, None)
            self.assertIs(kind, UnknownName, wrong)
            self.assertIs(error.wanted, wrong)
        for wrong in NO_NUMBERS:
            kind, error = error_of(desk.move, "u", wrong)
            self.assertIs(kind, InvalidNumber, wrong)
            self.assertIs(error.value, wrong)
        self.assertEqual(seen(desk), before)
        desk.clear()
        self.assertIs(error_of(desk.move, "u", 0)[0], InvalidArgument)
        self.assertIs(error_of(desk.move, "u", True)[0], InvalidNumber)

    def test_press(self):
        desk = Desk(MEET, P)
        self.assertIs(error_of(desk.press)[0], InvalidArgument)
        desk.take(3, {"u": 30, "v": 31})
        self.assertIsNone(desk.press())
        self.assertEqual((desk.interval, desk.starts), (3, {"u": 0, "v": 1}))
        loop = Loop(Operation("a"), Operation("b"), Operation("c", reads=(("a", 0),)))
        desk = Desk(loop, P)
        desk.take(4, {"a": 9, "b": 7, "c": 20})
        desk.press()
        self.assertEqual(desk.starts, Plan(loop, P, 4, {"a": 9, "b": 7, "c": 20}).earliest().starts)
        self.assertEqual(desk.starts, {"a": 1, "b": 3, "c": 4})

    def test_signs(self):
        desk = same = planned()
        desk += Operation("w")
        desk -= "w"
        self.assertIs(desk, same)
        self.assertEqual((desk.loop, desk.starts, len(desk)), (MEET, None, 3))
        with self.assertRaises(InvalidArgument):
            desk += "w"
        with self.assertRaises(UnknownName):
            desk -= "w"
        with self.assertRaises(InvalidLoop):
            desk -= "u"
        self.assertIs(desk, same)
        self.assertEqual(len(desk), 3)


class Pins(unittest.TestCase):
    def test_kinds_and_bounds(self):
        for pin, wanted in ((("interval", 3), None), (("interval", 32), None), (("interval", 33), InvalidArgument),
                            (("interval", 0), InvalidArgument), (("interval", 2), Broken), (("interval", 1), Broken),
                            (("registers", 1), None), (("registers", 72), None), (("registers", 0), InvalidArgument),
                            (("registers", 73), InvalidArgument), (("start", "u", 0), None), (("start", "v", 1), None),
                            (("start", "v", 2), Broken), (("start", "u", 10 ** 6), Broken),
                            (("start", "u", 10 ** 6 + 1), InvalidArgument), (("start", "u", -1), InvalidArgument),
                            (("start", "w", 0), InvalidArgument), (("start", "u", False), InvalidArgument),
                            (("start", "v", True), InvalidArgument), (("interval", True), InvalidArgument),
                            (("registers", True), InvalidArgument)):
            desk = planned()
            kind, error = error_of(desk.pin, pin)
            self.assertIs(kind, wanted, pin)
            self.assertEqual(desk.pins, () if wanted else (pin,))
            self.assertIs(pin in desk, wanted is None)
            if wanted is Broken:
                self.assertEqual((error.kind, error.reason), (pin[0], pin))

    def test_without_a_plan(self):
        desk = Desk(MEET, P)
        for pin in (("registers", 72), ("start", "u", 0)):
            kind, error = error_of(desk.pin, pin)
            self.assertEqual((kind, error.kind, error.reason), (Broken, pin[0], pin))
        desk.pin(("interval", 3))
        self.assertEqual((desk.pins, len(desk)), ((("interval", 3),), 1))

    def test_what_is_no_pin(self):
        desk = planned([("interval", 3)])
        for wrong in [("interval",), ("interval", 3, 0), ["interval", 3], ("Interval", 3), ("start", "u"),
                      ("start", 0, "u"),
                      ("start", ["u"], 0), ("start", None, 0), (None, 3), "interval", ("interval", "3"),
                      ("interval", None),
                      (("interval", 3),), {"interval": 3}, *all_kinds()]:
            self.assertIs(error_of(desk.pin, wrong)[0], InvalidArgument, wrong)
            self.assertIs(error_of(desk.unpin, wrong)[0], InvalidArgument, wrong)
            self.assertIs(wrong in desk, False, wrong)
        self.assertEqual((desk.pins, len(desk)), ((("interval", 3),), 2))

    def test_true_is_not_1(self):
        loop = Loop(Operation("a"))
        desk = Desk(loop, P)
        desk.take(1, {"a": 1})
        for pin, other in ((("interval", 1), ("interval", True)), (("registers", 1), ("registers", True)),
                           (("start", "a", 1), ("start", "a", True))):
            desk.pin(pin)
            self.assertEqual((pin in desk, other in desk), (True, False))
            self.assertIs(error_of(desk.unpin, other)[0], InvalidArgument)
            self.assertIs(error_of(desk.pin, other)[0], InvalidArgument)

    def test_twelve_and_thirteen(self):
        desk = Desk(MEET, P)
        for number in range(32, 20, -1):
            desk.pin(("interval", number))
        self.assertEqual(desk.pins, tuple(("interval", number) for number in range(21, 33)))
        # A pin that does not hold is too many, too.
        for pin in (("interval", 20), ("interval", 1), ("start", "u", 0)):
            kind, error = error_of(desk.pin, pin)
            self.assertEqual((kind, error.limit), (TooMany, 12))
        self.assertIs(error_of(desk.pin, ("interval", 0))[0], InvalidArgument)
        self.assertIsNone(desk.pin(("interval", 25)))
        self.assertEqual((len(desk.pins), len(desk)), (12, 13))
        desk.unpin(("interval", 25))
        desk.pin(("interval", 20))
        self.assertEqual(desk.pins[0], ("interval", 20))

    def test_pins_ascend_and_are_there_once(self):
        desk = planned([("start", "v", 1), ("registers", 5), ("start", "u", 0), ("interval", 30), ("interval", 4),
                        ("registers", 5), ("registers", 1)])
        self.assertEqual(desk.pins, (("interval", 4), ("interval", 30), ("registers", 1), ("registers", 5),
                                     ("start", "u", 0), ("start", "v", 1)))
        self.assertEqual((len(desk), type(desk.pins)), (8, tuple))
        self.assertIsNone(desk.unpin(("registers", 5)))
        self.assertIs(error_of(desk.unpin, ("registers", 5))[0], InvalidArgument)
        self.assertEqual(len(desk.pins), 5)

    def test_the_first_pin_that_does_not_hold(self):
        pins = [("start", "v", 1), ("start", "u", 0), ("registers", 4), ("interval", 3)]
        slow = Operation("u", ticks=2, reads=(("v", 1),), uses=(("p", 0),))
        for first, wanted in ((0, pins[3]), (1, pins[2]), (2, pins[1]), (3, pins[0])):
            desk = planned(pins[:4 - first])
            before = seen(desk)
            kind, error = error_of(desk.put, slow)
            self.assertEqual((kind, error.kind, error.reason), (Broken, wanted[0], wanted))
            self.assertEqual(seen(desk), before)

    def test_each_call_can_break_a_pin(self):
        calls = {"put": lambda desk: desk.put(Operation("w")), "order": lambda desk: desk.order(("z", "u", 1, 0)),
                 "unit": lambda desk: desk.unit("p", 1), "take": lambda desk: desk.take(3, {"u": 3, "v": 4, "z": 3}),
                 "clear": lambda desk: desk.clear(), "drop": lambda desk: desk.drop("z"),
                 "move": lambda desk: desk.move("z", 3), "press": lambda desk: desk.press()}
        for name, call in calls.items():
            desk = Desk(with_operation(MEET, Operation("z")), Machine(p=2))
            desk.take(2, {"u": 2, "v": 3, "z": 2})
            for pin in (("start", "z", 2), ("interval", 2)):
                desk.pin(pin)
            before = seen(desk)
            kind, error = error_of(call, desk)
            self.assertIs(kind, Broken, name)
            wanted = ("interval", 2) if name == "unit" else ("start", "z", 2)
            self.assertEqual(error.reason, wanted, name)
            self.assertEqual(seen(desk), before)
        many = planned([("registers", 1)])
        self.assertEqual(error_of(many.put, Operation("w"), start=2)[1].reason, ("registers", 1))

    def test_lift_and_more_units_break_nothing(self):
        draw = Random(12)
        for loop in [one for one in some_loops(400) if len(one.asking) <= 4 and one.orders][:40]:
            machine = machine_for(loop)
            desk = Desk(loop, machine)
            least = desk.least
            starts = draw_plan(draw, loop, machine, least)
            desk.take(least, starts)
            for pin in [("interval", least), *[("start", name, starts[name]) for name in loop]]:
                desk.pin(pin)
            if desk.registers is not None:
                desk.pin(("registers", desk.registers))
            pins = desk.pins
            while desk.loop.orders:
                desk.lift(draw.choice(desk.loop.orders))
            for unit in loop.units:
                desk.unit(unit, 2)
                desk.unit(unit, 3)
            self.assertEqual((desk.pins, desk.starts), (pins, starts))


def draw_plan(draw, loop, machine, interval):
    """Some plan."""
    return Plan(loop, machine, interval, interval_paper(loop, machine, interval)[1]).shifted(draw.randint(0, 9)).starts


class Registers(unittest.TestCase):
    def test_against_the_spans(self):
        draw, seen_ones = Random(3), set()
        for loop in [one for one in some_loops(300) if len(one.asking) <= 4]:
            machine = machine_for(loop)
            desk = Desk(loop, machine)
            self.assertEqual(desk.least, least_interval(loop, machine))
            starts = draw_plan(draw, loop, machine, desk.least)
            desk.take(desk.least, starts)
            kind, spans = error_of(spans_of, loop, desk.least, starts)
            self.assertEqual(desk.registers, None if kind else least_turning(spans))
            seen_ones.add(desk.registers)
        self.assertGreater(len(seen_ones), 5)

    def test_spans_longer_than_eight_intervals(self):
        loop = Loop(Operation("a"), Operation("b", reads=(("a", 0),)))
        desk = Desk(loop, P)
        desk.take(2, {"a": 0, "b": 16})
        self.assertEqual(desk.registers, 9)
        desk.pin(("start", "a", 0))
        desk.move("b", 17)
        self.assertIsNone(desk.registers)
        self.assertEqual((desk.interval, desk.starts), (2, {"a": 0, "b": 17}))
        self.assertEqual(error_of(desk.pin, ("registers", 72))[1].reason, ("registers", 72))


class Undo(unittest.TestCase):
    def test_each_call_is_taken_back(self):
        desk = Desk(MEET, P)
        calls = [lambda: desk.take(3, {"u": 3, "v": 4}), lambda: desk.press(), lambda: desk.pin(("interval", 3)),
                 lambda: desk.pin(("interval", 3)), lambda: desk.put(Operation("w")), lambda: desk.drop("w"),
                 lambda: desk.order(("u", "v", 0, 0)), lambda: desk.order(("u", "v", 0, 0)),
                 lambda: desk.lift(("u", "v", 0, 0)),
                 lambda: desk.unit("q", 2), lambda: desk.take(3, {"u": 0, "v": 1}), lambda: desk.move("u", 0),
                 lambda: desk.clear(), lambda: desk.unpin(("interval", 3))]
        states = [seen(desk)]
        for call in calls:
            self.assertIsNone(call())
            states.append(seen(desk))
            self.assertEqual(len(desk), len(states) - 1)
        for many in range(len(calls) + 1):
            other = desk.twin()
            self.assertEqual(other.undo(many=many), len(calls) - many)
            self.assertEqual(seen(other), states[len(calls) - many])
        for left in reversed(range(len(calls))):
            self.assertEqual(desk.undo(), left)
            self.assertEqual(seen(desk), states[left])
        kind, error = error_of(desk.undo)
        self.assertEqual((kind, error.many), (NothingToUndo, 1))
        self.assertEqual(seen(desk), states[0])

    def test_numbers(self):
        desk = planned()
        before = seen(desk)
        self.assertEqual(desk.undo(many=0), 1)
        for wrong in (-1, *NO_NUMBERS):
            kind, error = error_of(desk.undo, many=wrong)
            self.assertIs(kind, InvalidNumber, wrong)
            self.assertIs(error.value, wrong)
        for many in (2, 3, 10 ** 12 - 1):
            kind, error = error_of(desk.undo, many=many)
            self.assertEqual((kind, error.many), (NothingToUndo, many))
        self.assertEqual(seen(desk), before)
        self.assertEqual((desk.undo(many=1), desk.undo(many=0)), (0, 0))
        with self.assertRaises(TypeError):
            desk.undo(1)

    def test_after_undo_calls_go_on(self):
        desk = planned()
        desk.undo()
        desk.unit("q", 1)
        self.assertEqual((len(desk), desk.undo(), desk.machine), (1, 0, P))


class Trials(unittest.TestCase):
    def test_a_block(self):
        desk = planned([("interval", 3)])
        before = seen(desk)
        with desk.trial() as same:
            self.assertIs(same, desk)
            self.assertEqual(seen(desk), before)
            desk.unpin(("interval", 3))
            desk.put(Operation("u", ticks=4, reads=(("v", 1),)))
            self.assertEqual((desk.least, len(desk)), (5, 4))
        self.assertEqual(seen(desk), before)

    def test_calls_taken_back_in_a_block(self):
        desk = planned([("interval", 3)])
        before = seen(desk)
        with desk.trial():
            self.assertEqual(desk.undo(many=2), 0)
            desk.unit("q", 1)
        self.assertEqual(seen(desk), before)
        self.assertEqual(desk.undo(), 1)

    def test_blocks_that_end_by_an_error(self):
        desk = planned([("interval", 3)])
        before = seen(desk)
        for error in (InvalidArgument, KeyError, TypeError, Broken):
            with self.assertRaises(error):
                with desk.trial():
                    desk.clear()
                    if error is Broken:
                        desk.put(Operation("u", ticks=4, reads=(("v", 1),)))
                    raise error(1)
            self.assertEqual(seen(desk), before)
        for _ in range(2):
            with desk.trial():
                desk.clear()
                break
        self.assertEqual(seen(desk), before)

    def test_blocks_within_one_another(self):
        desk = planned()
        before = seen(desk)
        with desk.trial():
            desk.unit("q", 1)
            middle = seen(desk)
            with desk.trial():
                desk.undo(many=2)
                desk.put(Operation("w"))
            self.assertEqual(seen(desk), middle)
            with self.assertRaises(InvalidMachine):
                with desk.trial():
                    desk.clear()
                    desk.unit("r", 1)
                    desk.unit("s", 1)
            self.assertEqual(seen(desk), middle)
            self.assertEqual(desk.during(lambda one: one.undo(many=2)), 0)
            self.assertEqual(seen(desk), middle)
        self.assertEqual(seen(desk), before)

    def test_during(self):
        desk = planned()
        before = seen(desk)

        def call(same):
            self.assertIs(same, desk)
            same.put(Operation("w"))
            return same.loop.names
        self.assertEqual(desk.during(call), ("u", "v", "w"))
        self.assertEqual(seen(desk), before)
        self.assertEqual(desk.during(lambda one: one.during(call)), ("u", "v", "w"))
        self.assertEqual(seen(desk), before)

        def bad(same):
            same.clear()
            raise InvalidArgument(1)
        with self.assertRaises(InvalidArgument):
            desk.during(bad)
        self.assertEqual(seen(desk), before)

    def test_one_trial_again(self):
        desk = planned()
        trial = desk.trial()
        desk.unit("q", 1)
        before = seen(desk)
        for _ in range(2):
            with trial:
                desk.clear()
            self.assertEqual(seen(desk), before)


class Twins(unittest.TestCase):
    def test_twins(self):
        desk = planned([("interval", 3)])
        twin = desk.twin()
        self.assertIs(type(twin), Desk)
        self.assertEqual((seen(twin), twin == desk), (seen(desk), True))
        before = seen(desk)
        twin.undo(many=2)
        twin.unit("q", 1)
        self.assertEqual(seen(desk), before)
        self.assertFalse(twin == desk)
        other = desk.twin()
        desk.clear()
        self.assertEqual(seen(other), before)
        self.assertEqual(other.undo(many=2), 0)

    def test_equal(self):
        one, two = Desk(MEET, P), Desk(Loop(*reversed(MEET.operations)), Machine(p=1))
        self.assertTrue(one == two)
        two.take(3, {"u": 0, "v": 1})
        self.assertTrue(one != two)
        one.take(3, {"u": 0, "v": 1})
        self.assertTrue(one == two)
        # The calls that can be taken back do not count.
        one.unit("q", 1)
        one.unit("q", 0)
        self.assertTrue(one == two and len(one) != len(two))
        one.pin(("interval", 3))
        self.assertFalse(one == two)
        two.pin(("interval", 3))
        self.assertTrue(one == two)
        one.take(4, {"u": 0, "v": 1})
        self.assertFalse(one == two)
        one.take(3, {"u": 3, "v": 4})
        self.assertFalse(one == two)
        self.assertFalse(Desk(MEET, P) == Desk(MEET, Machine(p=2)))
        self.assertFalse(Desk(MEET, P) == Desk(with_order(MEET, ("u", "v", 0, 0)), P))
        for other in [MEET, P, *all_kinds()]:
            self.assertFalse(one == other)
            self.assertTrue(one != other)

    def test_in_len_str_and_iteration(self):
        desk = planned([("start", "u", 0)])
        self.assertEqual([value in desk for value in ("u", "v", "w", "p", ("start", "u", 0), ("start", "v", 1), None,
                                                      0)],
                         [True, True, False, False, True, False, False, False])
        for wrong in all_kinds():
            self.assertIs(wrong in desk, False, wrong)
        self.assertEqual((len(desk), str(desk), list(desk)),
                         (2, "desk of 2 operations, interval 3, 1 pins", ["u", "v"]))
        desk.unpin(("start", "u", 0))
        desk.clear()
        self.assertEqual(str(desk), "desk of 2 operations, no plan, 0 pins")


class Model(unittest.TestCase):
    def test_drawn_calls(self):
        """A desk beside one that is made anew of what it should hold."""
        draw = Random(21)
        raised = {}
        for loop in [one for one in some_loops(200) if len(one.asking) <= 4 and len(one) <= 4][:30]:
            machine = machine_for(loop, 2)
            desk = Desk(loop, machine)
            past = []
            for _ in range(40):
                self.one_call(draw, desk, past, raised)
        self.assertGreater(min(raised.get(kind, 0) for kind in (None, Broken, InvalidArgument, InvalidLoop)), 20,
                           raised)

    def one_call(self, draw, desk, past, raised):
        before, count = seen(desk), len(desk)
        name = draw.choice(desk.loop.names)
        other = draw.choice(desk.loop.names)
        order = (name, other, draw.randint(0, 4), draw.randint(0, 3))
        operation = Operation(draw.choice([name, "new"]), ticks=draw.randint(1, 2),
                              reads=((other, draw.randint(0, 3)),),
                              uses=tuple((unit, draw.randint(0, 3)) for unit in desk.loop.units[:1]))
        starts = desk.starts or {one: 0 for one in desk.loop}
        new = [lambda: desk.put(operation, start=draw.choice((None, 0, 5))), lambda: desk.drop(name),
               lambda: desk.order(order), lambda: desk.lift(draw.choice(desk.loop.orders or (order,))),
               lambda: desk.unit(draw.choice(desk.loop.units or ("p",)), draw.randint(1, 3)),
               lambda: desk.take(desk.least, draw_plan(draw, desk.loop, desk.machine, desk.least)),
               lambda: desk.clear(),
               lambda: desk.move(name, starts[name] + draw.randint(-1, 2)), lambda: desk.press(),
               lambda: desk.pin(draw.choice([("interval", desk.least), ("start", name, starts[name]),
                                             ("registers", desk.registers or 3)])),
               lambda: desk.unpin(draw.choice(desk.pins or (None,)))]
        kind, value = error_of(draw.choice(new))
        raised[kind] = raised.get(kind, 0) + 1
        if kind is not None:
            self.assertEqual(seen(desk), before)
        else:
            past.append(before)
            self.assertEqual((value, len(desk)), (None, count + 1))
        self.check(desk)
        if past and draw.random() < 0.2:
            many = draw.randint(0, min(3, len(past)))
            self.assertEqual(desk.undo(many=many), len(past) - many)
            if many:
                self.assertEqual(seen(desk), past[-many])
                del past[-many:]

    def check(self, desk):
        """All that [14.1] says of one moment."""
        self.assertEqual(desk.least, least_interval(desk.loop, desk.machine))
        registers = None
        if desk.starts is not None:
            self.assertTrue(is_plan(desk.loop, desk.machine, desk.interval, desk.starts))
            kind, spans = error_of(spans_of, desk.loop, desk.interval, desk.starts)
            registers = None if kind else least_turning(spans)
        self.assertEqual((desk.registers, desk.interval is None), (registers, desk.starts is None))
        self.assertEqual(desk.pins, tuple(sorted(set(desk.pins))))
        for pin in desk.pins:
            if pin[0] == "interval":
                self.assertLessEqual(desk.least, pin[1])
            elif pin[0] == "registers":
                self.assertLessEqual(registers, pin[1])
            else:
                self.assertEqual(desk.starts[pin[1]], pin[2])

    def test_the_loops_and_machines_of_changes(self):
        desk = Desk(MEET, P)
        for call, loop, machine in (
                (lambda: desk.put(Operation("w", reads=(("u", 2),))), lambda one, two: with_operation(
                    one, Operation("w", reads=(("u", 2),))), None),
                (lambda: desk.order(("u", "w", 3, 1)), lambda one, two: with_order(one, ("u", "w", 3, 1)), None),
                (lambda: desk.unit("q", 3), None, lambda two: with_unit(two, "q", 3)),
                (lambda: desk.lift(("u", "w", 3, 1)), lambda one, two: without_order(one, ("u", "w", 3, 1)), None),
                (lambda: desk.drop("w"), lambda one, two: without_operation(one, "w"), None)):
            wanted = (loop(desk.loop, None) if loop else desk.loop, machine(desk.machine) if machine else desk.machine)
            call()
            self.assertEqual((desk.loop, desk.machine), wanted)
        self.assertEqual(Desk(SUM, BOTH).least, 2)


if __name__ == "__main__":
    unittest.main()
