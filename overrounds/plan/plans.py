"""Starts of a loop, what they ask of a machine, and plans."""

from overrounds.base.numbers import check_between, check_integer, check_interval, rounded_up
from overrounds.errors import InvalidArgument, UnknownName
from overrounds.loop.loops import MAX_ROUNDS, check_loop
from overrounds.loop.rows import is_table
from overrounds.plan.machines import check_machine

MAX_START = 10 ** 6


def is_starts(loop, value):
    """Whether the value is starts of the loop."""
    check_loop(loop)
    return is_table(loop.names, value, 0, MAX_START)


def check_starts(loop, value):
    """Raise InvalidArgument unless the value is starts of the loop."""
    if not is_starts(loop, value):
        raise InvalidArgument(value)


def check_units(loop, machine):
    """Raise InvalidArgument if the loop uses a unit that the machine does not have."""
    for unit in loop.units:
        if unit not in machine:
            raise InvalidArgument(unit)


def times_asked(loop, interval, ticks):
    """How often the operations that have a tick ask for the pairs (unit, slot).

    Ticks that differ by whole intervals ask for the same, so slots will do.
    """
    asked_for = {}
    for name in ticks:
        for unit, offset in loop[name].uses:
            pair = (unit, (ticks[name] + offset) % interval)
            asked_for[pair] = asked_for.get(pair, 0) + 1
    return {pair: asked_for[pair] for pair in sorted(asked_for)}


def is_fitting(loop, interval, value):
    """Whether the value is starts that fit the loop."""
    check_loop(loop)
    check_interval(interval)
    return is_starts(loop, value) and all([ticks >= 0 for ticks in leeway(loop, interval, value)])


def is_plan(loop, machine, interval, value):
    """Whether the value is starts that fit the loop and the machine."""
    check_loop(loop)
    check_machine(machine)
    check_interval(interval)
    check_units(loop, machine)
    return is_starts(loop, value) and faults(loop, machine, interval, value) == ()


def leeway(loop, interval, starts):
    """For each arc, by how many ticks its target starts later than it has to."""
    check_loop(loop)
    check_interval(interval)
    check_starts(loop, starts)
    return tuple([starts[target] - starts[source] - delay + interval * distance
                  for source, target, delay, distance in loop.arcs])


def asked(loop, interval, starts):
    """A dict from the pairs (unit, slot) that are asked for to how often they are."""
    check_loop(loop)
    check_interval(interval)
    check_starts(loop, starts)
    return times_asked(loop, interval, starts)


def faults(loop, machine, interval, starts):
    """All that does not fit: arcs by their index, then units by their slot."""
    check_loop(loop)
    check_machine(machine)
    check_interval(interval)
    check_starts(loop, starts)
    check_units(loop, machine)
    late = [("arc", index) for index, ticks in enumerate(leeway(loop, interval, starts)) if ticks < 0]
    many = times_asked(loop, interval, starts)
    crowded = [("unit", unit, slot) for unit, slot in many if many[unit, slot] > machine[unit]]
    return (*late, *crowded)


class Plan:
    """Starts that fit a loop and a machine with an interval. It never changes."""

    def __init__(self, loop, machine, interval, starts):
        if faults(loop, machine, interval, starts) != ():
            raise InvalidArgument(starts)
        self._loop = loop
        self._machine = machine
        self._interval = interval
        self._starts = {name: starts[name] for name in loop.names}

    @property
    def loop(self):
        return self._loop

    @property
    def machine(self):
        return self._machine

    @property
    def interval(self):
        return self._interval

    @property
    def starts(self):
        """A dict from all names to their starts."""
        return dict(self._starts)

    @property
    def slots(self):
        """A dict from all names to their slots."""
        return {name: tick % self._interval for name, tick in self._starts.items()}

    @property
    def length(self):
        """The ticks from the least start to the last writing of a round."""
        last = max([self._starts[one.name] + one.ticks for one in self._loop.operations])
        return last - min(self._starts.values())

    def duration(self, rounds):
        """The ticks from the first start to the last writing of so many rounds."""
        check_between(rounds, 0, MAX_ROUNDS)
        if rounds == 0:
            return 0
        return self.length + self._interval * (rounds - 1)

    def events(self, rounds):
        """All triples (tick, name, round) of so many rounds, ascending."""
        check_between(rounds, 0, MAX_ROUNDS)
        yield from sorted([(tick + self._interval * turn, name, turn)
                           for name, tick in self._starts.items() for turn in range(rounds)])

    def _check_name(self, name):
        if name not in self._loop.names:
            raise UnknownName(name)

    def room(self, name):
        """The least and the greatest start of the operation while all others stay."""
        self._check_name(name)
        # An arc from an operation to itself holds wherever the operation starts.
        arcs = [arc for arc in self._loop.arcs if arc[0] != arc[1]]
        lows = [self._starts[source] + delay - self._interval * distance
                for source, target, delay, distance in arcs if target == name]
        highs = [self._starts[target] - delay + self._interval * distance
                 for source, target, delay, distance in arcs if source == name]
        return max(lows, default=None), min(highs, default=None)

    def moved(self, name, by):
        """The plan in which one operation starts `by` ticks later."""
        self._check_name(name)
        check_integer(by)
        return self._with_starts({**self._starts, name: self._starts[name] + by})

    def shifted(self, by):
        """The plan in which all operations start `by` ticks later."""
        check_integer(by)
        return self._with_starts({name: tick + by for name, tick in self._starts.items()})

    def _with_starts(self, starts):
        return Plan(self._loop, self._machine, self._interval, starts)

    def earliest(self):
        """The plan with the same slots of which no start is greater than in another one."""
        starts = self.slots
        # Each start is raised by whole intervals, and only as far as an arc
        # asks, so it never gets beyond the one of this plan.
        moving = True
        while moving:
            moving = False
            for source, target, delay, distance in self._loop.arcs:
                least = starts[source] + delay - self._interval * distance
                if least > starts[target]:
                    starts[target] = rounded_up(least, starts[target], self._interval)
                    moving = True
        return self._with_starts(starts)

    def _check_like(self, other):
        """Raise InvalidArgument unless the other is a plan with equal slots for the same."""
        if not isinstance(other, Plan) or self._interval != other._interval or self.slots != other.slots:
            raise InvalidArgument(other)
        if self._loop != other._loop or self._machine != other._machine:
            raise InvalidArgument(other)

    def __and__(self, other):
        self._check_like(other)
        return self._with_starts({name: min(tick, other._starts[name]) for name, tick in self._starts.items()})

    def __or__(self, other):
        self._check_like(other)
        return self._with_starts({name: max(tick, other._starts[name]) for name, tick in self._starts.items()})

    def grid(self):
        """A text with a line for each unit: how often it is asked for at each slot."""
        many = times_asked(self._loop, self._interval, self._starts)
        lines = []
        for unit in self._machine:
            cells = [str(many.get((unit, slot), 0)).rjust(3) for slot in range(self._interval)]
            lines.append("".join([unit.ljust(8), *cells]))
        return "\n".join(lines)

    def __eq__(self, other):
        return (isinstance(other, Plan) and self._loop == other._loop and self._machine == other._machine
                and self._interval == other._interval and self._starts == other._starts)

    def __str__(self):
        return f"plan of {len(self._loop.names)} operations, interval {self._interval}"
