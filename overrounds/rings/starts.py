"""Starts that fit a loop, without units."""

from overrounds.base.numbers import MAX_INTERVAL, check_interval
from overrounds.errors import InvalidArgument, UnknownName
from overrounds.loop.loops import check_loop
from overrounds.loop.rows import is_ring
from overrounds.plan.plans import is_fitting
from overrounds.rings.heights import fitting_rows, gap_of, lifted, longest, low


def start_paper(loop, interval):
    """("starts", starts) that fit the loop, or ("ring", indices) of a ring that asks for too much."""
    check_loop(loop)
    check_interval(interval)
    starts, ring = lifted(fitting_rows(loop, interval), low(loop.names))
    if ring is not None:
        return ("ring", ring)
    return ("starts", starts)


def is_long_ring(loop, interval, value):
    """Whether the value is a ring whose delay is greater than the interval times its distance."""
    if not is_ring(loop.arcs, value):
        return False
    delay, distance = loop.ring_sum(value)
    return delay > interval * distance


def is_start_paper(loop, interval, value):
    """Whether the value is a paper of `start_paper`."""
    check_loop(loop)
    check_interval(interval)
    if not isinstance(value, tuple) or len(value) != 2:
        return False
    if value[0] == "starts":
        return is_fitting(loop, interval, value[1])
    return value[0] == "ring" and is_long_ring(loop, interval, value[1])


def check_fits(loop, interval):
    """Raise InvalidArgument if no starts fit the loop."""
    if start_paper(loop, interval)[0] == "ring":
        raise InvalidArgument(interval)


def least_starts(loop, interval):
    """The starts that fit the loop of which none is greater than in any other ones."""
    check_fits(loop, interval)
    return start_paper(loop, interval)[1]


def _longest_gaps(loop, interval):
    """The greatest weights between all names; InvalidArgument if no starts fit."""
    check_fits(loop, interval)
    return longest(loop.names, fitting_rows(loop, interval))


def gap(loop, interval, source, target):
    """The least difference of the starts of two operations, or None without a bound."""
    check_loop(loop)
    check_interval(interval)
    for name in (source, target):
        if name not in loop.names:
            raise UnknownName(name)
    return gap_of(_longest_gaps(loop, interval), source, target)


def slacks(loop, interval):
    """For each arc, by how much its delay alone could grow, or None without a bound."""
    check_loop(loop)
    check_interval(interval)
    best = _longest_gaps(loop, interval)
    found = []
    for source, target, weight in fitting_rows(loop, interval):
        back = gap_of(best, target, source)
        # Only the rings through an arc bound its delay.
        found.append(None if back is None else -weight - back)
    return tuple(found)


def free_interval(loop):
    """The least interval with starts that fit the loop."""
    check_loop(loop)
    for interval in range(1, MAX_INTERVAL):
        if start_paper(loop, interval)[0] == "starts":
            return interval
    # With the greatest interval starts fit each loop.
    return MAX_INTERVAL
