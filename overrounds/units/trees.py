"""Trees of cases, which show that an interval has no plan."""

from overrounds.base.numbers import check_interval, is_between
from overrounds.errors import InvalidArgument, TooMany
from overrounds.loop.loops import check_loop
from overrounds.plan.machines import check_machine
from overrounds.plan.plans import check_units, is_fitting, is_plan, times_asked
from overrounds.units.ways import is_circuit, is_told, need_of, ways_of

MAX_ASKING = 4


def _check_told(loop, interval, slots):
    check_loop(loop)
    check_interval(interval)
    if not is_told(loop, interval, slots):
        raise InvalidArgument(slots)


def need(loop, interval, slots, circuit):
    """What a circuit needs by told slots."""
    _check_told(loop, interval, slots)
    if not is_circuit(loop, circuit):
        raise InvalidArgument(circuit)
    return need_of(loop, interval, slots, circuit)


def slots_paper(loop, interval, slots):
    """("starts", starts) with the told slots, or ("circuit", circuit) that gains."""
    _check_told(loop, interval, slots)
    return ways_of(loop, interval).paper(slots)


def is_slots_paper(loop, interval, slots, value):
    """Whether the value is a paper of `slots_paper`."""
    _check_told(loop, interval, slots)
    if not isinstance(value, tuple) or len(value) != 2:
        return False
    if value[0] == "starts":
        return is_fitting(loop, interval, value[1]) and _has_slots(interval, slots, value[1])
    return value[0] == "circuit" and _gains(loop, interval, slots, value[1])


def _has_slots(interval, slots, starts):
    return all([starts[name] % interval == slots[name] for name in slots])


def _gains(loop, interval, slots, value):
    """Whether the value is a circuit that gains."""
    return is_circuit(loop, value) and need_of(loop, interval, slots, value) > 0


def check_asking(loop):
    """Raise TooMany if too many operations use units for a search."""
    if len(loop.asking) > MAX_ASKING:
        raise TooMany(MAX_ASKING)


def check_all(loop, machine, interval):
    """Raise an error unless they are a loop, a machine with its units and an interval."""
    check_loop(loop)
    check_machine(machine)
    check_interval(interval)
    check_units(loop, machine)


def interval_paper(loop, machine, interval):
    """("plan", starts), or ("tree", tree) that shows that there is no plan."""
    check_all(loop, machine, interval)
    check_asking(loop)
    return _paper_below(loop, machine, interval, ways_of(loop, interval), {})


def _paper_below(loop, machine, interval, ways, slots):
    """A plan with the told slots, or a tree that shows that there is none."""
    many = times_asked(loop, interval, slots)
    for unit, slot in many:
        if many[unit, slot] > machine[unit]:
            return ("tree", ("unit", unit, slot))
    kind, found = ways.paper(slots)
    if kind == "circuit":
        return ("tree", ("circuit", found))
    left = [name for name in loop.asking if name not in slots]
    if not left:
        return ("plan", found)
    trees = []
    # As all starts can be moved together, the first slot can be any.
    for slot in range(interval if slots else 1):
        kind, found = _paper_below(loop, machine, interval, ways, {**slots, left[0]: slot})
        if kind == "plan":
            return (kind, found)
        trees.append(found)
    return ("tree", ("split", left[0], tuple(trees)))


def is_tree(loop, machine, interval, value):
    """Whether the value is a right tree for a loop, a machine and an interval that are right."""
    return _is_right(loop, machine, interval, {}, value)


def _is_right(loop, machine, interval, slots, value):
    """Whether the value is a right tree for the told slots."""
    if not isinstance(value, tuple) or len(value) not in (2, 3):
        return False
    if len(value) == 2:
        return value[0] == "circuit" and _gains(loop, interval, slots, value[1])
    if value[0] == "unit":
        return _is_crowded(loop, machine, interval, slots, value[1:])
    return value[0] == "split" and _is_split(loop, machine, interval, slots, value[1:])


def _is_crowded(loop, machine, interval, slots, place):
    """Whether the told operations ask for the unit at the slot more often than it is there."""
    unit, slot = place
    if unit not in machine or not is_between(slot, 0, interval - 1):
        return False
    return times_asked(loop, interval, slots).get((unit, slot), 0) > machine[unit]


def _is_split(loop, machine, interval, slots, parts):
    """Whether the trees are right for all slots of an operation of which none is told."""
    name, trees = parts
    if name not in loop.names or name in slots or not isinstance(trees, tuple):
        return False
    if len(trees) != interval and (slots or len(trees) != 1):
        return False
    return all([_is_right(loop, machine, interval, {**slots, name: slot}, tree) for slot, tree in enumerate(trees)])


def is_interval_paper(loop, machine, interval, value):
    """Whether the value is a paper of `interval_paper`."""
    check_all(loop, machine, interval)
    if not isinstance(value, tuple) or len(value) != 2:
        return False
    if value[0] == "plan":
        return is_plan(loop, machine, interval, value[1])
    return value[0] == "tree" and is_tree(loop, machine, interval, value[1])


def has_plan(loop, machine, interval):
    """Whether there is a plan."""
    return interval_paper(loop, machine, interval)[0] == "plan"
