"""A desk, on which a loop and a machine are changed while pins hold."""

from overrounds.base.numbers import check_between, check_integer, is_integer
from overrounds.change.changes import (check_operation, with_operation, with_order, with_unit, without_operation,
                                       without_order)
from overrounds.errors import Broken, InvalidArgument, InvalidNumber, NothingToUndo, TooMany, UnknownName
from overrounds.live.boards import Board, is_pin
from overrounds.live.trials import Trial
from overrounds.loop.loops import check_loop
from overrounds.plan.machines import check_machine
from overrounds.plan.plans import MAX_START, Plan, check_units, is_plan
from overrounds.units.trees import check_asking

MAX_PINS = 12


def _check_parts(loop, machine):
    """Raise an error unless a desk can have this loop and this machine."""
    check_loop(loop)
    check_machine(machine)
    check_units(loop, machine)
    check_asking(loop)


class Desk:
    """A loop and a machine under changes, with a plan or without one, and with pins."""

    def __init__(self, loop, machine):
        _check_parts(loop, machine)
        self._now = Board(loop, machine, None, ())
        # The boards ahead of the calls that can be taken back.
        self._past = ()

    @property
    def loop(self):
        return self._now.loop

    @property
    def machine(self):
        return self._now.machine

    @property
    def interval(self):
        """The interval of the plan, or None."""
        return None if self._now.plan is None else self._now.plan.interval

    @property
    def starts(self):
        """The starts of the plan, or None."""
        return None if self._now.plan is None else self._now.plan.starts

    @property
    def least(self):
        """The least interval."""
        return self._now.least

    @property
    def registers(self):
        """The least number of registers for the plan in a file that turns, or None."""
        return self._now.registers

    @property
    def pins(self):
        """The pins, ascending."""
        return self._now.pins

    def put(self, operation, *, start=None):
        """Put an operation into the loop, perhaps in the place of the one with its name."""
        check_operation(operation)
        if start is not None:
            check_between(start, 0, MAX_START)
        loop = with_operation(self.loop, operation)
        starts = self.starts
        if starts is not None and start is not None:
            starts[operation.name] = start
        self._change(loop, self.machine, starts)

    def drop(self, name):
        """Take an operation out of the loop."""
        loop = without_operation(self.loop, name)
        starts = self.starts
        if starts is not None:
            del starts[name]
        self._change(loop, self.machine, starts)

    def order(self, order):
        """Put an order into the loop."""
        self._change(with_order(self.loop, order), self.machine, self.starts)

    def lift(self, order):
        """Take an order out of the loop."""
        self._change(without_order(self.loop, order), self.machine, self.starts)

    def unit(self, name, many):
        """Have a unit so many times."""
        self._change(self.loop, with_unit(self.machine, name, many), self.starts)

    def _change(self, loop, machine, starts):
        """Go on with a loop and a machine, and with the starts if they are a plan of them."""
        _check_parts(loop, machine)
        plan = None
        if starts is not None and is_plan(loop, machine, self.interval, starts):
            plan = Plan(loop, machine, self.interval, starts)
        self._go_on(Board(loop, machine, plan, self.pins))

    def _go_on(self, board):
        """Go on with another board, if all its pins hold."""
        pin = board.first_broken()
        if pin is not None:
            raise Broken(pin[0], pin)
        self._past = (*self._past, self._now)
        self._now = board

    def _planned(self, plan):
        """Go on with another plan, or with None."""
        self._go_on(Board(self.loop, self.machine, plan, self.pins))

    def _pinned(self, pins):
        """Go on with other pins."""
        self._go_on(Board(self.loop, self.machine, self._now.plan, pins))

    def __iadd__(self, other):
        self.put(other)
        return self

    def __isub__(self, other):
        self.drop(other)
        return self

    def take(self, interval, starts):
        """Take a plan."""
        self._planned(Plan(self.loop, self.machine, interval, starts))

    def clear(self):
        """Take away the plan."""
        self._planned(None)

    def move(self, name, tick):
        """Give an operation another start."""
        if name not in self.loop.names:
            raise UnknownName(name)
        check_integer(tick)
        plan = self._plan_now()
        self.take(plan.interval, {**plan.starts, name: tick})

    def press(self):
        """Take the earliest plan with the same slots."""
        self._planned(self._plan_now().earliest())

    def _plan_now(self):
        """The plan; InvalidArgument if there is none."""
        if self._now.plan is None:
            raise InvalidArgument(None)
        return self._now.plan

    def pin(self, pin):
        """Let a pin hold from now on."""
        if not is_pin(self.loop, pin):
            raise InvalidArgument(pin)
        pins = self.pins if pin in self.pins else tuple(sorted([*self.pins, pin]))
        if len(pins) > MAX_PINS:
            raise TooMany(MAX_PINS)
        self._pinned(pins)

    def unpin(self, pin):
        """Take away a pin."""
        if not self._now.has_pin(pin):
            raise InvalidArgument(pin)
        self._pinned(tuple([one for one in self.pins if one != pin]))

    def undo(self, *, many=1):
        """Take back so many calls; how many are left."""
        if not is_integer(many) or many < 0:
            raise InvalidNumber(many)
        left = len(self._past) - many
        if left < 0:
            raise NothingToUndo(many)
        if many > 0:
            self._now = self._past[left]
            self._past = self._past[:left]
        return left

    def trial(self):
        """A block behind which the desk is as ahead of it."""
        return Trial(self)

    def during(self, call):
        """What a call returns for the desk in such a block."""
        with self.trial() as same:
            return call(same)

    def twin(self):
        """An independent copy."""
        other = Desk(self.loop, self.machine)
        other._now = self._now
        other._past = self._past
        return other

    def __contains__(self, value):
        return value in self.loop.names or self._now.has_pin(value)

    def __len__(self):
        return len(self._past)

    def __iter__(self):
        return iter(self._now._names)

    def __eq__(self, other):
        return isinstance(other, Desk) and self._now == other._now

    def _told_plan(self):
        if self.interval is None:
            return "no plan"
        return f"interval {self.interval}"

    def __str__(self):
        return f"desk of {len(self.loop.names)} operations, {self._told_plan()}, {len(self.pins)} pins"
