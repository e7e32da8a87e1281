"""Kernels: a row of instructions for each tick of an interval."""

from overrounds.base.numbers import check_between, check_interval, is_between, is_integer
from overrounds.code.runs import Run
from overrounds.errors import InvalidArgument, InvalidKernel, InvalidNumber, TooMany, UnknownName
from overrounds.file.turning import MAX_FILE
from overrounds.loop.loops import MAX_ROUNDS, check_loop
from overrounds.loop.rows import ascends, is_table
from overrounds.plan.plans import check_starts

MAX_STAGES = 64
MAX_RUN = 300
MAX_PASS = 400


def _is_instruction(loop, registers, value):
    """Whether the value is an instruction (name, stage, target, sources)."""
    if not isinstance(value, tuple) or len(value) != 4:
        return False
    name, stage, target, sources = value
    if name not in loop.names or not is_between(stage, 0, MAX_STAGES - 1) or not isinstance(sources, tuple):
        return False
    if len(sources) != len(loop[name].reads):
        return False
    return all([is_between(place, 0, registers - 1) for place in (target, *sources)])


def _is_row(loop, registers, value):
    """Whether the value is a tuple of instructions, ascending by name."""
    if not isinstance(value, tuple) or not all([_is_instruction(loop, registers, one) for one in value]):
        return False
    return ascends([one[0] for one in value])


def _are_rows(loop, interval, registers, value):
    """Whether the value is the rows of a kernel, with each operation once."""
    if not isinstance(value, tuple) or len(value) != interval:
        return False
    if not all([_is_row(loop, registers, row) for row in value]):
        return False
    return sorted([one[0] for row in value for one in row]) == list(loop.names)


class Kernel:
    """An instruction for each operation of a loop, in one of so many rows. It never changes."""

    def __init__(self, loop, interval, registers, rows):
        check_loop(loop)
        check_interval(interval)
        check_between(registers, 1, MAX_FILE)
        if not _are_rows(loop, interval, registers, rows):
            raise InvalidKernel(rows)
        self._loop = loop
        self._interval = interval
        self._registers = registers
        self._rows = rows
        slots = {one[0]: slot for slot, row in enumerate(rows) for one in row}
        table = {one[0]: one for row in rows for one in row}
        self._table = {name: table[name] for name in loop.names}
        self._starts = {name: slots[name] + interval * table[name][1] for name in loop.names}

    @property
    def loop(self):
        return self._loop

    @property
    def interval(self):
        return self._interval

    @property
    def registers(self):
        return self._registers

    @property
    def rows(self):
        return self._rows

    @property
    def starts(self):
        """A dict from all names to their starts in round 0."""
        return dict(self._starts)

    @property
    def bases(self):
        """A dict from all names to the registers of their values of round 0."""
        # The pass of round 0 is the stage, and so many registers has the window turned by then.
        return {name: (target + stage) % self._registers for name, stage, target, _ in self._table.values()}

    @property
    def stages(self):
        """The greatest stage plus 1."""
        return max([one[1] for one in self._table.values()]) + 1

    def __getitem__(self, name):
        if name not in self._loop.names:
            raise UnknownName(name)
        return self._table[name]

    def __iter__(self):
        raise TypeError("a kernel is not iterated over")

    def __len__(self):
        return len(self._table)

    def __eq__(self, other):
        return (isinstance(other, Kernel) and self._loop == other._loop and self._interval == other._interval
                and self._registers == other._registers and self._rows == other._rows)

    def __str__(self):
        return f"kernel of {self._interval} rows, {self.stages} stages, {self._registers} registers"

    def guards(self, rounds, number):
        """The stages with an instruction that starts something in this pass of a run, ascending."""
        check_run(rounds)
        check_between(number, 0, MAX_PASS)
        stages = sorted({one[1] for one in self._table.values()})
        return tuple([stage for stage in stages if 0 <= number - stage < rounds])

    def timeline(self, rounds):
        """All starts of a run as triples (tick, name, round), ascending."""
        check_run(rounds)
        yield from sorted([(tick + self._interval * turn, name, turn)
                           for name, tick in self._starts.items() for turn in range(rounds)])

    def played(self, rounds, meaning):
        """A dict from all names to the tuples of their values in the rounds below `rounds`."""
        check_between(rounds, 0, MAX_ROUNDS)
        run = Run(self, rounds)
        made = {name: [] for name in self._loop.names}
        for _, name, turn in self.timeline(rounds):
            read = []
            for index in range(len(self._table[name][3])):
                value = run.found(name, index, turn)
                if value is None:
                    read.append(None)
                elif value[1] < 0:
                    read.append(meaning(value[0], value[1], ()))
                else:
                    # What is found was written by now, and so it was started before.
                    read.append(made[value[0]][value[1]])
            made[name].append(meaning(name, turn, tuple(read)))
        return {name: tuple(made[name]) for name in self._loop.names}

    def later(self, passes):
        """The kernel with all stages greater by so many passes, and with the same registers of the file."""
        if not is_integer(passes) or passes < 0:
            raise InvalidNumber(passes)
        if self.stages + passes > MAX_STAGES:
            raise TooMany(MAX_STAGES)
        rows = [[(name, stage + passes, self._back(target, passes), tuple([self._back(one, passes) for one in sources]))
                 for name, stage, target, sources in row] for row in self._rows]
        return Kernel(self._loop, self._interval, self._registers, tuple([tuple(row) for row in rows]))

    def _back(self, place, passes):
        """The window register that so many passes later is the same register of the file."""
        return (place - passes) % self._registers


def check_run(rounds):
    """Raise InvalidNumber unless a run can have so many rounds."""
    check_between(rounds, 0, MAX_RUN)


def kernel_of(loop, interval, starts, registers, bases):
    """The kernel with these starts and bases."""
    check_loop(loop)
    check_interval(interval)
    check_starts(loop, starts)
    check_between(registers, 1, MAX_FILE)
    if not is_table(loop.names, bases, 0, registers - 1):
        raise InvalidArgument(bases)
    if max(starts.values()) // interval >= MAX_STAGES:
        raise TooMany(MAX_STAGES)
    rows = [[] for _ in range(interval)]
    for one in loop.operations:
        stage = starts[one.name] // interval
        sources = [(bases[name] - distance - stage) % registers for name, distance in one.reads]
        target = (bases[one.name] - stage) % registers
        rows[starts[one.name] % interval].append((one.name, stage, target, tuple(sources)))
    return Kernel(loop, interval, registers, tuple([tuple(row) for row in rows]))
