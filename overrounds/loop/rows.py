"""Rows of pairs and of arcs: what operations and loops are made of.

An arc is a tuple (source, target, delay, distance).
"""

from overrounds.base.numbers import is_between, is_name


def ascends(row):
    """Whether each item is greater than the one before it."""
    return all([row[at - 1] < row[at] for at in range(1, len(row))])


def is_pair(value, highest):
    """Whether the value is a pair of a name and an integer from 0 to `highest`."""
    if not isinstance(value, tuple) or len(value) != 2:
        return False
    return is_name(value[0]) and is_between(value[1], 0, highest)


def is_row_of_pairs(value, most, highest):
    """Whether the value is a tuple of at most `most` such pairs."""
    if not isinstance(value, tuple) or len(value) > most:
        return False
    return all([is_pair(item, highest) for item in value])


def is_table(names, value, low, high):
    """Whether the value is a dict from just these names to integers from `low` to `high`."""
    if not isinstance(value, dict) or len(value) != len(names):
        return False
    return all([name in value and is_between(value[name], low, high) for name in names])


def first_items(rows):
    """The ascending tuple of the first items of some tuples, each once."""
    return tuple(sorted({row[0] for row in rows}))


def parts_of(names):
    """All ascending tuples of some of the ascending names."""
    parts = [()]
    for name in names:
        parts = parts + [(*part, name) for part in parts]
    return parts


def is_ring(arcs, value):
    """Whether the value is a ring as a tuple of indices, beginning with any of its arcs."""
    if not isinstance(value, tuple) or not 1 <= len(value) <= len(arcs):
        return False
    if not all([is_between(index, 0, len(arcs) - 1) for index in value]):
        return False
    row = [arcs[index] for index in value]
    # The index -1 closes the ring: the first arc comes behind the last one.
    joined = all([row[at - 1][1] == row[at][0] for at in range(len(row))])
    return joined and len(first_items(row)) == len(row)


def leaving_arcs(arcs):
    """A dict from all sources of arcs to the indices of their arcs, descending."""
    leaving = {}
    for index in reversed(range(len(arcs))):
        leaving.setdefault(arcs[index][0], []).append(index)
    return leaving


def each_ring(arcs):
    """All rings, ascending, each beginning with the arc at its least name."""
    leaving = leaving_arcs(arcs)
    # The last row of the stack is the least one that is left. As no ring is
    # the beginning of another one, the rings are found in ascending order.
    rows = [(index,) for index in reversed(range(len(arcs)))]
    while rows:
        row = rows.pop()
        start, here = arcs[row[0]][0], arcs[row[-1]][1]
        if here == start:
            yield row
        elif here > start and here not in [arcs[index][0] for index in row]:
            for index in leaving.get(here, ()):
                rows.append((*row, index))


def order_of_round(names, arcs):
    """The names so that each arc of distance 0 leads from an earlier one to a later one.

    If a ring has distance 0 in all, there is no such order, and it is None.
    """
    pairs = [(arc[0], arc[1]) for arc in arcs if arc[3] == 0]
    order = []
    left = list(names)
    while left:
        waiting = [target for source, target in pairs if source in left]
        free = [name for name in left if name not in waiting]
        if not free:
            return None
        order.extend(free)
        left = [name for name in left if name in waiting]
    return order
