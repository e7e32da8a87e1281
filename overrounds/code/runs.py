"""Runs of kernels: what their readings find."""

from overrounds.loop.loops import MAX_DISTANCE


class Run:
    """A run of so many rounds of a kernel. It never changes."""

    def __init__(self, kernel, rounds):
        self._kernel = kernel
        self._rounds = rounds
        self._begins = kernel.starts
        bases = kernel.bases
        self._writers = [(self._begins[one.name] + one.ticks, one.name, bases[one.name])
                         for one in kernel.loop.operations]

    def found(self, name, index, turn):
        """The pair (name, round) of the value that an operand finds in a round, or None."""
        instruction = self._kernel[name]
        place = instruction[3][index] + instruction[1] + turn
        tick = self._begins[name] + self._kernel.interval * turn
        rows = []
        for written, other, base in self._writers:
            last = min((tick - written) // self._kernel.interval, self._rounds - 1)
            # Of the rounds up to this one it is the last one that writes into this register.
            last = last - (base + last - place) % self._kernel.registers
            if last >= -MAX_DISTANCE:
                rows.append((written + self._kernel.interval * last, other, last))
        # Of two values in one tick the one of the greater name remains.
        return max(rows)[1:] if rows else None
