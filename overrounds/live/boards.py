"""Boards: what lies on a desk at one moment."""

from overrounds.base.numbers import MAX_INTERVAL, is_between
from overrounds.file.spans import Spans, are_short, span_rows
from overrounds.file.turning import MAX_FILE, least_turning
from overrounds.plan.plans import MAX_START
from overrounds.units.least import least_interval


def is_pin(loop, value):
    """Whether the value is a pin for this loop."""
    if not isinstance(value, tuple) or len(value) not in (2, 3):
        return False
    if len(value) == 3:
        return value[0] == "start" and value[1] in loop.names and is_between(value[2], 0, MAX_START)
    if value[0] == "interval":
        return is_between(value[1], 1, MAX_INTERVAL)
    return value[0] == "registers" and is_between(value[1], 1, MAX_FILE)


def _registers_for(loop, plan):
    """The least number of registers for a plan in a file that turns; None without one or if a span is too long."""
    if plan is None:
        return None
    rows = span_rows(loop, plan.interval, plan.starts)
    if not are_short(plan.interval, rows):
        return None
    return least_turning(Spans(plan.interval, rows))


class Board:
    """A loop, a machine, a plan for them or None, and pins. It never changes."""

    def __init__(self, loop, machine, plan, pins):
        self._loop = loop
        self._machine = machine
        self._plan = plan
        self._pins = pins
        self._names = loop.names
        # Both are worked out here, as a property that is read stores nothing.
        self._least = least_interval(loop, machine)
        self._registers = _registers_for(loop, plan)

    @property
    def loop(self):
        return self._loop

    @property
    def machine(self):
        return self._machine

    @property
    def plan(self):
        return self._plan

    @property
    def pins(self):
        return self._pins

    @property
    def least(self):
        """The least interval."""
        return self._least

    @property
    def registers(self):
        """The least number of registers for the plan in a file that turns, or None."""
        return self._registers

    def has_pin(self, value):
        """Whether the value is a pin that is there."""
        # True in the place of 1 would be equal to one that is.
        return is_pin(self._loop, value) and value in self._pins

    def holds(self, pin):
        """Whether a pin holds."""
        if pin[0] == "interval":
            return self.least <= pin[1]
        if pin[0] == "registers":
            return self.registers is not None and self.registers <= pin[1]
        return self._plan is not None and self._plan.starts.get(pin[1], -1) == pin[2]

    def first_broken(self):
        """The first pin that does not hold, or None."""
        for pin in self._pins:
            if not self.holds(pin):
                return pin
        return None

    def __eq__(self, other):
        return (isinstance(other, Board) and self._loop == other._loop and self._machine == other._machine
                and self._plan == other._plan and self._pins == other._pins)
