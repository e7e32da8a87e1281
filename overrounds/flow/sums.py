"""Sums of the lengths of all spans."""

from overrounds.base.numbers import MAX_INTERVAL, check_interval, is_integer
from overrounds.errors import InvalidArgument, UnknownName
from overrounds.file.spans import check_fitting, span_rows
from overrounds.flow.matches import best_flow, read_values
from overrounds.loop.loops import check_loop
from overrounds.plan.plans import is_fitting
from overrounds.rings.heights import fitting_rows, lifted, low
from overrounds.rings.starts import check_fits, free_interval, gap, is_long_ring, start_paper


def _are_amounts(value, many):
    """Whether the value is a tuple of so many integers of at least 0."""
    if not isinstance(value, tuple) or len(value) != many:
        return False
    return all([is_integer(amount) and amount >= 0 for amount in value])


def is_flow(loop, value):
    """Whether the value is a flow of the loop."""
    check_loop(loop)
    if not isinstance(value, tuple) or len(value) != 2:
        return False
    if not _are_amounts(value[0], len(loop.arcs)) or not _are_amounts(value[1], len(loop.readings)):
        return False
    return all([_is_shared(loop, value[1], name) for name in read_values(loop)]) and _balances(loop, value)


def _is_shared(loop, readings, name):
    """Whether the readings of a value have an amount of 1 together."""
    return sum([amount for amount, reading in zip(readings, loop.readings) if reading[0] == name]) == 1


def _balances(loop, flow):
    """Whether as much leaves each operation as comes to it, and begins there."""
    left = {name: 0 for name in loop.names}
    for name in read_values(loop):
        left[name] = 1
    for amount, arc in zip(flow[0], loop.arcs):
        left[arc[0]] = left[arc[0]] - amount
        left[arc[1]] = left[arc[1]] + amount
    for amount, reading in zip(flow[1], loop.readings):
        left[reading[1]] = left[reading[1]] - amount
    return not any(list(left.values()))


def line(loop, flow):
    """The pair (base, slope) of a flow."""
    if not is_flow(loop, flow):
        raise InvalidArgument(flow)
    base = len(loop.names) - sum([loop[name].ticks for name in read_values(loop)])
    base = base + sum([amount * arc[2] for amount, arc in zip(flow[0], loop.arcs)])
    slope = sum([amount * reading[2] for amount, reading in zip(flow[1], loop.readings)])
    return base, slope - sum([amount * arc[3] for amount, arc in zip(flow[0], loop.arcs)])


def _worth(loop, interval, flow):
    base, slope = line(loop, flow)
    return base + slope * interval


def _sum_of_rows(loop, interval, starts):
    return sum([end - begin for begin, end in span_rows(loop, interval, starts).values()])


def sum_of(loop, interval, starts):
    """The sum of the lengths of all spans."""
    check_fitting(loop, interval, starts)
    return _sum_of_rows(loop, interval, starts)


def sum_paper(loop, interval):
    """("sum", starts, flow) with the least sum, or ("ring", indices) if no starts fit."""
    check_loop(loop)
    check_interval(interval)
    kind, ring = start_paper(loop, interval)
    if kind == "ring":
        return (kind, ring)
    flow = best_flow(loop, interval)
    return ("sum", _starts_of(loop, interval, flow), flow)


def _starts_of(loop, interval, flow):
    """Starts whose sum is the worth of a flow that has the greatest one."""
    rows = fitting_rows(loop, interval)
    # Where the flow has an amount, the arc has no leeway and the reading is a last one.
    tight = [(target, source, -weight) for amount, (source, target, weight) in zip(flow[0], rows) if amount > 0]
    last = [(other, reader, interval * (back - distance))
            for amount, (name, reader, distance) in zip(flow[1], loop.readings) if amount > 0
            for value, other, back in loop.readings if value == name]
    return lifted(rows + tight + last, low(loop.names))[0]


def is_sum_paper(loop, interval, value):
    """Whether the value is a paper of `sum_paper`."""
    check_loop(loop)
    check_interval(interval)
    if not isinstance(value, tuple) or len(value) not in (2, 3):
        return False
    if len(value) == 2:
        return value[0] == "ring" and is_long_ring(loop, interval, value[1])
    if value[0] != "sum" or not is_fitting(loop, interval, value[1]) or not is_flow(loop, value[2]):
        return False
    return _sum_of_rows(loop, interval, value[1]) == _worth(loop, interval, value[2])


def least_sums(loop):
    """A dict from all intervals with starts that fit to their least sums."""
    check_loop(loop)
    return {interval: _worth(loop, interval, best_flow(loop, interval))
            for interval in range(free_interval(loop), MAX_INTERVAL + 1)}


def least_length(loop, interval, name):
    """The least length of the span of one value in all starts that fit."""
    check_loop(loop)
    check_interval(interval)
    if name not in loop.names:
        raise UnknownName(name)
    check_fits(loop, interval)
    # All readers can start as early as the gaps let them, together.
    read = [gap(loop, interval, name, reader) + interval * distance
            for value, reader, distance in loop.readings if value == name]
    return max(read, default=loop[name].ticks) - loop[name].ticks + 1


def registers_bound(loop, interval):
    """As many values as are alive in at least one slot, whatever the starts."""
    check_loop(loop)
    check_interval(interval)
    check_fits(loop, interval)
    # The division is rounded up.
    return -(-_worth(loop, interval, best_flow(loop, interval)) // interval)
