"""Plans in which some operations have given starts."""

from overrounds.plan.plans import MAX_START, times_asked
from overrounds.rings.heights import fitting_rows
from overrounds.units.trees import has_plan
from overrounds.units.ways import Ways

# No operation has this name. Its start is 0, and what bounds a single start
# is a row between it and the operation.
GROUND = ""


def _rows_of(loop, interval, starts):
    """The rows that all starts with the given ones have to fit."""
    firsts = [(GROUND, name, starts.get(name, 0)) for name in loop.names]
    lasts = [(name, GROUND, -starts.get(name, MAX_START)) for name in loop.names]
    return fitting_rows(loop, interval) + firsts + lasts


def plan_with(loop, machine, interval, starts):
    """Any plan that has the given starts, or None."""
    # A loop without any plan is told sooner, as all its starts can be moved together.
    if not has_plan(loop, machine, interval):
        return None
    ways = Ways((GROUND, *loop.names), _rows_of(loop, interval, starts), interval)
    if ways.paper({})[0] == "circuit":
        return None
    slots = {name: starts[name] % interval for name in loop.asking if name in starts}
    # What is bound most closely is tried first, as it fails soonest.
    left = sorted([(ways.leeway_between(GROUND, name), name) for name in loop.asking if name not in starts])
    return _plan_below(loop, machine, interval, ways, slots, [name for _, name in left])


def _plan_below(loop, machine, interval, ways, slots, left):
    """Any plan with the told slots, or None; no slot is told of the operations that are left."""
    many = times_asked(loop, interval, slots)
    if any([many[unit, slot] > machine[unit] for unit, slot in many]):
        return None
    kind, heights = ways.paper({GROUND: 0, **slots})
    if kind == "circuit":
        return None
    if not left:
        # They are the least heights that fit, and so the ground is at 0: it can be there.
        return {name: heights[name] for name in loop.names}
    for slot in range(interval):
        starts = _plan_below(loop, machine, interval, ways, {**slots, left[0]: slot}, left[1:])
        if starts is not None:
            return starts
    return None
