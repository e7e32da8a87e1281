"""Flows as matches: each value that is read sends its 1 to one value that is read.

It goes along arcs to a reader of that value, so of all ways only the best one
counts, and a flow with the greatest worth is a match with the greatest gain.
"""

from overrounds.rings.heights import fitting_rows, longest


def read_values(loop):
    """The names of the operations whose value is read, ascending."""
    return [name for name in loop.names if name in [reading[0] for reading in loop.readings]]


def best_flow(loop, interval):
    """A flow with the greatest worth, for an interval with starts that fit."""
    best = longest(loop.names, fitting_rows(loop, interval))
    values = read_values(loop)
    ways = [[_best_way(loop, interval, best, source, value) for value in values] for source in values]
    arcs = [0 for _ in loop.arcs]
    readings = [0 for _ in loop.readings]
    for row, column in zip(ways, _best_columns([[None if way is None else way[0] for way in row] for row in ways])):
        _, reading, indices = row[column]
        readings[reading] = 1
        for index in indices:
            arcs[index] = arcs[index] + 1
    return tuple(arcs), tuple(readings)


def _best_way(loop, interval, best, source, value):
    """The greatest gain of a way to a reader of the value, its reading and its arcs; None without a way."""
    found = None
    for index, (name, reader, distance) in enumerate(loop.readings):
        if name == value and (source, reader) in best:
            weight, indices = best[source, reader]
            gain = weight + interval * distance
            if found is None or gain > found[0]:
                found = (gain, index, indices)
    return found


def _best_columns(gains):
    """A different column for each row, so that the gains are greatest; no gain may be None."""
    # The key is the columns that are taken, as the bits of a number.
    best = {0: (0, ())}
    for row in gains:
        found = {}
        for taken, (total, columns) in best.items():
            for column, gain in enumerate(row):
                if gain is not None and not taken & (1 << column):
                    key = taken | (1 << column)
                    if key not in found or total + gain > found[key][0]:
                        found[key] = (total + gain, (*columns, column))
        best = found
    # Each value can keep its 1 for itself, so there is always a match.
    return [columns for _, columns in best.values()][0]
