"""Changed loops and machines, and which plans stay."""

from overrounds.base.numbers import check_between, check_interval, is_between, is_name
from overrounds.change.givens import plan_with
from overrounds.errors import InvalidArgument, UnknownName
from overrounds.loop.loops import MAX_DISTANCE, Loop, Operation, check_loop, is_order
from overrounds.loop.rows import ascends, parts_of
from overrounds.plan.machines import MAX_SAME, MAX_UNITS, Machine, check_machine
from overrounds.plan.plans import MAX_START
from overrounds.units.trees import check_all, check_asking, has_plan


def check_operation(value):
    """Raise InvalidArgument unless the value is an operation."""
    if not isinstance(value, Operation):
        raise InvalidArgument(value)


def with_operation(loop, operation):
    """The loop with this operation, in the place of the one with its name if there is one."""
    check_loop(loop)
    check_operation(operation)
    others = [one for one in loop.operations if one.name != operation.name]
    return Loop.of((*others, operation), orders=loop.orders)


def without_operation(loop, name):
    """The loop without an operation and the orders that name it."""
    check_loop(loop)
    if name not in loop.names:
        raise UnknownName(name)
    others = [one for one in loop.operations if one.name != name]
    orders = [order for order in loop.orders if name not in order[:2]]
    return Loop.of(tuple(others), orders=tuple(orders))


def _check_order(loop, order):
    check_loop(loop)
    if not is_order(loop.names, order):
        raise InvalidArgument(order)


def with_order(loop, order):
    """The loop with this order."""
    _check_order(loop, order)
    if order in loop.orders:
        return loop
    return Loop.of(loop.operations, orders=tuple(sorted([*loop.orders, order])))


def without_order(loop, order):
    """The loop without this order."""
    _check_order(loop, order)
    if order not in loop.orders:
        raise InvalidArgument(order)
    return Loop.of(loop.operations, orders=tuple([one for one in loop.orders if one != order]))


def with_unit(machine, unit, many):
    """The machine with this unit so many times, or without it for 0."""
    check_machine(machine)
    if not is_name(unit):
        raise InvalidArgument(unit)
    check_between(many, 0, MAX_SAME)
    units = {**machine.units, unit: many}
    return Machine.of({name: units[name] for name in units if units[name] > 0})


def _best_delays(loop, source, distance):
    """The greatest delays of rows of arcs from the source, by where they end and by their distances."""
    best = {(source, 0): 0}
    # It comes to rest, as no ring has distance 0 in all.
    moving = True
    while moving:
        moving = False
        for begin, end, delay, back in loop.arcs:
            for gone in range(distance - back + 1):
                if (begin, gone) in best and best[begin, gone] + delay > best.get((end, gone + back), -1):
                    best[end, gone + back] = best[begin, gone] + delay
                    moving = True
    return best


def carried(loop, source, target, distance):
    """The greatest delay of an arc with this distance that the loop carries, or None."""
    check_loop(loop)
    for name in (source, target):
        if name not in loop.names:
            raise UnknownName(name)
    check_between(distance, 0, MAX_DISTANCE)
    best = _best_delays(loop, source, distance)
    return max([best[name, gone] for name, gone in best if name == target], default=None)


def _carries(loop, arc):
    """Whether the loop carries an arc."""
    source, target, delay, distance = arc
    most = carried(loop, source, target, distance)
    return most is not None and most >= delay


def is_easier(loop, machine, other, units):
    """Whether a loop and a machine are easier than another loop and its machine."""
    check_loop(loop)
    check_machine(machine)
    check_loop(other)
    check_machine(units)
    if loop.names != other.names or not all([_carries(other, arc) for arc in loop.arcs]):
        return False
    if not all([pair in other[one.name].uses for one in loop.operations for pair in one.uses]):
        return False
    here, there = machine.units, units.units
    return all([here.get(unit, 0) >= there.get(unit, 0) for unit in loop.units])


def _check_given(loop, machine, interval, starts):
    check_all(loop, machine, interval)
    if not isinstance(starts, dict):
        raise InvalidArgument(starts)
    if not all([name in loop.names and is_between(tick, 0, MAX_START) for name, tick in starts.items()]):
        raise InvalidArgument(starts)
    check_asking(loop)


def completed(loop, machine, interval, starts):
    """Any plan that has the given starts, or None."""
    _check_given(loop, machine, interval, starts)
    return plan_with(loop, machine, interval, starts)


def _is_enough(loop, machine, interval, starts, moved):
    """Whether some plan has all given starts but those of the names that are moved."""
    kept = {name: starts[name] for name in starts if name not in moved}
    return plan_with(loop, machine, interval, kept) is not None


def fewest_moved(loop, machine, interval, starts):
    """As few names as possible so that some plan has all other given starts; None without a plan."""
    _check_given(loop, machine, interval, starts)
    for _, moved in sorted([(len(part), part) for part in parts_of(tuple(sorted(starts)))]):
        if _is_enough(loop, machine, interval, starts, moved):
            return moved
    return None


def is_fewest_moved(loop, machine, interval, starts, value):
    """Whether the value is what `fewest_moved` can return."""
    moved = fewest_moved(loop, machine, interval, starts)
    if moved is None or not isinstance(value, tuple):
        return moved is None and value is None
    if len(value) != len(moved) or not all([name in list(starts) for name in value]) or not ascends(value):
        return False
    return _is_enough(loop, machine, interval, starts, value)


def _all_numbers(many):
    """All tuples of so many numbers of a unit, ascending."""
    rows = [()]
    for _ in range(many):
        rows = [(*row, same) for row in rows for same in range(1, MAX_SAME + 1)]
    return rows


def least_machines(loop, interval):
    """The least machines with which the loop has a plan, ascending by their numbers."""
    check_loop(loop)
    check_interval(interval)
    check_asking(loop)
    if len(loop.units) > MAX_UNITS:
        return ()
    found = []
    # A machine comes behind all those that are below it.
    for numbers in _all_numbers(len(loop.units)):
        machine = Machine.of(dict(zip(loop.units, numbers)))
        if not any([one.is_below(machine) for one in found]) and has_plan(loop, machine, interval):
            found.append(machine)
    return tuple(found)
