"""Told slots and the circuits of a loop.

The sum of a circuit, in stretches from one told slot to the next one, is
rounded up to what the slots let; a circuit that needs more than 0 gains, and
then no starts have these slots.
"""

from overrounds.base.numbers import is_between, rounded_up
from overrounds.rings.heights import fitting_rows, lifted, longest, low

MAX_CIRCUIT = 64


def is_told(loop, interval, value):
    """Whether the value is a dict from some names of the loop to slots."""
    if not isinstance(value, dict):
        return False
    return all([name in loop.names and is_between(slot, 0, interval - 1) for name, slot in value.items()])


def is_circuit(loop, value):
    """Whether the value is a circuit of the loop as a tuple of indices of its arcs."""
    if not isinstance(value, tuple) or not 1 <= len(value) <= MAX_CIRCUIT:
        return False
    if not all([is_between(index, 0, len(loop.arcs) - 1) for index in value]):
        return False
    # The index -1 closes the circuit: the first arc comes behind the last one.
    row = [loop.arcs[index] for index in value]
    return all([row[at - 1][1] == row[at][0] for at in range(len(row))])


def need_of(loop, interval, slots, circuit):
    """What the circuit needs by the told slots."""
    rows = [loop.arcs[index] for index in circuit]
    sums = [row[2] - interval * row[3] for row in rows]
    places = [at for at, row in enumerate(rows) if row[0] in slots]
    if not places:
        return sum(sums)
    total = 0
    # The last stretch goes around, from the last of the places to the first one.
    sums = sums + sums
    for begin, end in zip(places, [*places[1:], places[0] + len(rows)]):
        turn = slots[rows[end % len(rows)][0]] - slots[rows[begin][0]]
        total = total + rounded_up(sum(sums[begin:end]), turn, interval)
    return total


class Ways:
    """What rows, such as those of the arcs of a loop, ask of heights, for any told slots of an interval."""

    def __init__(self, names, rows, interval):
        self._turn = interval
        self._all_rows = rows
        self._lows, self._long_ring = lifted(rows, low(names))
        self._best = {}
        if self._long_ring is None:
            self._best = longest(names, rows)

    def leeway_between(self, one, other):
        """By how much the height of the other can change while that of the one stays; rows bound it both ways."""
        return -self._best[one, other][0] - self._best[other, one][0]

    def _told_rows(self, slots):
        """The rows between operations with told slots, rounded up, and the arcs of each."""
        rows = []
        ways = []
        for source in slots:
            for target in slots:
                if source != target and (source, target) in self._best:
                    weight, indices = self._best[source, target]
                    rows.append((source, target, rounded_up(weight, slots[target] - slots[source], self._turn)))
                    ways.append(indices)
        return rows, ways

    def paper(self, slots):
        """("starts", heights) with the told slots, or ("circuit", indices of rows) that gains."""
        # Rounding only adds to what a ring needs.
        if self._long_ring is not None:
            return ("circuit", self._long_ring)
        rows, ways = self._told_rows(slots)
        heights = {name: rounded_up(self._lows[name], slots[name], self._turn) for name in slots}
        told, ring = lifted(rows, heights)
        if ring is not None:
            return ("circuit", tuple([index for at in ring for index in ways[at]]))
        # The told ones stay: what leads from one of them to another one
        # through any others is already among the rows between them.
        return ("starts", lifted(self._all_rows, {**self._lows, **told})[0])


def ways_of(loop, interval):
    """What the arcs of a loop ask of starts with an interval."""
    return Ways(loop.names, fitting_rows(loop, interval), interval)
