"""Heights of names, which rows raise: what fits a loop, and rings that never come to rest.

Here a row is a tuple (source, target, weight). It asks that the height of its
target is at least the height of its source and the weight.
"""


def weighed(arcs, delays, distances):
    """A row for each arc: so many times its delay less so many times its distance."""
    return [(source, target, delays * delay - distances * distance) for source, target, delay, distance in arcs]


def fitting_rows(loop, interval):
    """The rows that starts with the interval have to fit."""
    return weighed(loop.arcs, 1, interval)


def low(names):
    """The height 0 for each name."""
    return {name: 0 for name in names}


def lifted(rows, heights):
    """The least heights from these on that fit all rows, and None.

    If there are none: None, and a ring with a weight above 0, as the indices of its rows.
    """
    found = dict(heights)
    last = {}
    # Without such a ring each height comes from some first one through each
    # name at most once, and so all come to rest within as many passes as names.
    for _ in range(len(found) + 1):
        raised = None
        for index, (source, target, weight) in enumerate(rows):
            if found[source] + weight > found[target]:
                found[target] = found[source] + weight
                last[target] = index
                raised = target
        if raised is None:
            return found, None
    return None, _ring_behind(rows, last, raised)


def _ring_behind(rows, last, name):
    """The ring of the rows that raised one another, from the row that raised the name last."""
    here = name
    for _ in last:
        here = rows[last[here]][0]
    # So many steps back lead onto the ring, wherever they began.
    ring = [last[here]]
    while rows[ring[-1]][0] != here:
        ring.append(last[rows[ring[-1]][0]])
    return tuple(ring[::-1])


def longest(names, rows):
    """A dict from the pairs of names to the greatest weight from the one to the other.

    Each value is a pair of this weight and the indices of its rows. A pair of
    names of which no rows lead from the one to the other is not there. It is
    only for rows without a ring with a weight above 0.
    """
    best = {(name, name): (0, ()) for name in names}
    for index, (source, target, weight) in enumerate(rows):
        if (source, target) not in best or weight > best[source, target][0]:
            best[source, target] = (weight, (index,))
    for middle in names:
        for source in names:
            for target in names:
                if (source, middle) in best and (middle, target) in best:
                    weight = best[source, middle][0] + best[middle, target][0]
                    if (source, target) not in best or weight > best[source, target][0]:
                        best[source, target] = (weight, best[source, middle][1] + best[middle, target][1])
    return best


def gap_of(best, source, target):
    """The greatest weight from the one to the other, or None."""
    if (source, target) not in best:
        return None
    return best[source, target][0]
