"""The least interval of a loop on a machine."""

from overrounds.base.numbers import MAX_INTERVAL, check_interval, is_between
from overrounds.loop.loops import check_loop
from overrounds.plan.machines import check_machine
from overrounds.plan.plans import check_units, is_plan
from overrounds.rings.starts import free_interval
from overrounds.units.trees import check_asking, has_plan, interval_paper, is_tree


def _check_both(loop, machine):
    check_loop(loop)
    check_machine(machine)


def bounds(loop, machine):
    """What the rings alone and what single units alone ask of an interval."""
    _check_both(loop, machine)
    check_units(loop, machine)
    rounds = [1]
    for unit in loop.units:
        asked = len([pair for one in loop.operations for pair in one.uses if pair[0] == unit])
        # The division is rounded up.
        rounds.append(-(-asked // machine[unit]))
    return free_interval(loop), max(rounds)


def least_interval(loop, machine):
    """The least interval that has a plan."""
    _check_both(loop, machine)
    check_units(loop, machine)
    check_asking(loop)
    interval = max(bounds(loop, machine))
    while not has_plan(loop, machine, interval):
        interval = interval + 1
    return interval


def intervals(loop, machine, *, most=MAX_INTERVAL):
    """All intervals up to `most` that have a plan, ascending."""
    _check_both(loop, machine)
    check_interval(most)
    check_units(loop, machine)
    check_asking(loop)
    return tuple([interval for interval in range(1, most + 1) if has_plan(loop, machine, interval)])


def least_paper(loop, machine):
    """The least interval, a plan for it, and a tree for each lesser one."""
    _check_both(loop, machine)
    check_units(loop, machine)
    check_asking(loop)
    trees = []
    kind, found = interval_paper(loop, machine, 1)
    while kind == "tree":
        trees.append(found)
        kind, found = interval_paper(loop, machine, len(trees) + 1)
    return len(trees) + 1, found, tuple(trees)


def is_least_paper(loop, machine, value):
    """Whether the value is a paper of `least_paper`."""
    _check_both(loop, machine)
    check_units(loop, machine)
    if not isinstance(value, tuple) or len(value) != 3:
        return False
    least, starts, trees = value
    if not is_between(least, 1, MAX_INTERVAL) or not is_plan(loop, machine, least, starts):
        return False
    if not isinstance(trees, tuple) or len(trees) != least - 1:
        return False
    return all([is_tree(loop, machine, at + 1, tree) for at, tree in enumerate(trees)])
