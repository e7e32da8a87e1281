"""The greatest ratio of the rings of a loop, and what unrolling makes of it."""

from math import gcd

from overrounds.base.numbers import check_between, is_integer
from overrounds.errors import TooMany
from overrounds.loop.loops import MAX_OPERATIONS, Operation, check_loop, wide_loop
from overrounds.loop.rows import is_ring
from overrounds.rings.heights import gap_of, lifted, longest, low, weighed

MAX_COPIES = 10 ** 6
LETTERS = "abcdefgh"


def _ratio_rows(loop, ring):
    """Rows in which just the rings with a greater ratio than this one have a weight above 0."""
    delay, distance = loop.ring_sum(ring)
    return weighed(loop.arcs, distance, delay)


def _greatest(loop):
    """A ring with the greatest ratio, and heights that show it; None and None without rings."""
    # The distance of each ring is above 0, so here the weight of each ring is, too.
    ring = lifted(weighed(loop.arcs, 1, -1), low(loop.names))[1]
    if ring is None:
        return None, None
    heights, greater = lifted(_ratio_rows(loop, ring), low(loop.names))
    while greater is not None:
        ring = greater
        heights, greater = lifted(_ratio_rows(loop, ring), low(loop.names))
    return ring, heights


def ratio(loop):
    """The greatest ratio as a pair in lowest terms, or None without rings."""
    check_loop(loop)
    ring = _greatest(loop)[0]
    if ring is None:
        return None
    delay, distance = loop.ring_sum(ring)
    common = gcd(delay, distance)
    return delay // common, distance // common


def critical(loop):
    """The indices of all arcs in rings with the greatest ratio, ascending."""
    check_loop(loop)
    ring = _greatest(loop)[0]
    if ring is None:
        return ()
    rows = _ratio_rows(loop, ring)
    best = longest(loop.names, rows)
    # The weight of such a ring is just 0.
    return tuple([index for index, (source, target, weight) in enumerate(rows)
                  if gap_of(best, target, source) == -weight])


def _order_of_arcs(loop):
    """The names so that each arc leads from an earlier one to a later one."""
    # Without rings a row of arcs visits each name at most once, and each arc raises by 1.
    heights = lifted([(arc[0], arc[1], 1) for arc in loop.arcs], low(loop.names))[0]
    return tuple([name for _, name in sorted([(heights[name], name) for name in loop.names])])


def ratio_paper(loop):
    """("ring", indices, heights) with the greatest ratio, or ("order", names) without rings."""
    check_loop(loop)
    ring, heights = _greatest(loop)
    if ring is None:
        return ("order", _order_of_arcs(loop))
    return ("ring", ring, heights)


def _is_order_of_arcs(loop, value):
    if not isinstance(value, tuple) or len(value) != len(loop.names):
        return False
    if not all([name in value for name in loop.names]):
        return False
    return all([value.index(arc[0]) < value.index(arc[1]) for arc in loop.arcs])


def _are_heights(loop, rows, value):
    """Whether the value is integers for all names that fit the rows."""
    if not isinstance(value, dict) or len(value) != len(loop.names):
        return False
    if not all([name in value and is_integer(value[name]) for name in loop.names]):
        return False
    return all([value[target] - value[source] >= weight for source, target, weight in rows])


def is_ratio_paper(loop, value):
    """Whether the value is a paper of `ratio_paper`."""
    check_loop(loop)
    if not isinstance(value, tuple) or len(value) not in (2, 3):
        return False
    if len(value) == 2:
        return value[0] == "order" and _is_order_of_arcs(loop, value[1])
    if value[0] != "ring" or not is_ring(loop.arcs, value[1]):
        return False
    return _are_heights(loop, _ratio_rows(loop, value[1]), value[2])


def _check_copies(loop, copies):
    check_loop(loop)
    check_between(copies, 1, MAX_COPIES)


def unrolled(loop, copies):
    """The loop that does so many rounds in one."""
    _check_copies(loop, copies)
    if len(loop.names) * copies > MAX_OPERATIONS:
        raise TooMany(MAX_OPERATIONS)
    operations = [_copied(loop, one, copy, copies) for one in loop.operations for copy in range(copies)]
    orders = []
    for source, target, delay, distance in loop.orders:
        for copy in range(copies):
            begin, back = _came_from(loop, source, distance, copy, copies)
            orders.append((begin, _copy_name(loop, target, copy), delay, back))
    return wide_loop(operations, tuple(sorted(orders)))


def _copy_name(loop, name, copy):
    return LETTERS[loop.names.index(name)] + LETTERS[copy]


def _came_from(loop, name, distance, copy, copies):
    """The copy of an operation that so many rounds before a copy are, and its distance."""
    other = (copy - distance) % copies
    return _copy_name(loop, name, other), (distance - copy + other) // copies


def _copied(loop, operation, copy, copies):
    """One copy of an operation."""
    reads = [_came_from(loop, name, distance, copy, copies) for name, distance in operation.reads]
    return Operation(_copy_name(loop, operation.name, copy), ticks=operation.ticks, reads=tuple(reads),
                     uses=operation.uses)


def unrolled_interval(loop, copies):
    """The least interval of the unrolled loop."""
    _check_copies(loop, copies)
    most = ratio(loop)
    if most is None:
        return 1
    delay, distance = most
    # The division is rounded up.
    return max(1, -(-copies * delay // distance))


def best_copies(loop):
    """The least number of copies of which the mean interval is the ratio, or None."""
    most = ratio(loop)
    if most is None or most[0] == 0:
        return None
    return most[1]
