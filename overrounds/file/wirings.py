"""Wirings: which value a register holds next."""

from math import lcm

from overrounds.base.numbers import check_between, check_integer, is_between, is_integer
from overrounds.errors import InvalidArgument, InvalidWiring, UnknownName
from overrounds.file.spans import check_spans

MAX_WIRED = 72


def _is_follow(spans, name, value):
    """Whether the value is a pair (next, wait) by which a value of `next` begins."""
    if not isinstance(value, tuple) or len(value) != 2:
        return False
    if value[0] not in spans.names or not is_integer(value[1]) or value[1] < 0:
        return False
    return (spans[name][1] + value[1] - spans[value[0]][0]) % spans.interval == 0


def _are_follows(spans, value):
    """Whether the value is a dict from all names to such pairs, each name once the next."""
    if not isinstance(value, dict) or len(value) != len(spans.names):
        return False
    if not all([name in value and _is_follow(spans, name, value[name]) for name in spans.names]):
        return False
    return sorted([value[name][0] for name in spans.names]) == list(spans.names)


def _size_of(spans, follows, names):
    """In how many registers the values of these names go round."""
    return sum([spans[name][1] - spans[name][0] + follows[name][1] for name in names]) // spans.interval


def is_wiring(spans, value):
    """Whether the value is the dict of a wiring of the spans."""
    return _are_follows(spans, value) and _size_of(spans, value, spans.names) <= MAX_WIRED


def _cycles_of(follows):
    """The cycles, ascending, each beginning with its least name."""
    cycles = []
    left = sorted(follows)
    while left:
        cycle = [left[0]]
        while follows[cycle[-1]][0] != left[0]:
            cycle.append(follows[cycle[-1]][0])
        cycles.append(tuple(cycle))
        left = [name for name in left if name not in cycle]
    return tuple(cycles)


class Wiring:
    """For each value, which one its register holds next. It never changes."""

    def __init__(self, spans, follows):
        check_spans(spans)
        if not is_wiring(spans, follows):
            raise InvalidWiring(follows)
        self._spans = spans
        self._follows = {name: follows[name] for name in spans.names}
        self._cycles = _cycles_of(follows)

    @property
    def spans(self):
        return self._spans

    @property
    def follows(self):
        """A dict from all names to the pairs (next, wait)."""
        return dict(self._follows)

    @property
    def registers(self):
        """The number of the registers of all cycles."""
        return sum(self.sizes)

    @property
    def cycles(self):
        """The cycles, ascending."""
        return self._cycles

    @property
    def sizes(self):
        """The numbers of registers of the cycles."""
        return tuple([_size_of(self._spans, self._follows, cycle) for cycle in self._cycles])

    @property
    def copies(self):
        """The least common multiple of the sizes."""
        multiple = 1
        for size in self.sizes:
            multiple = lcm(multiple, size)
        return multiple

    def after(self, name, turn):
        """The value that the register of a value holds next."""
        follower, wait = self[name]
        check_integer(turn)
        ticks = self._spans[name][1] + wait - self._spans[follower][0]
        return follower, turn + ticks // self._spans.interval

    def each_free(self, moment):
        """The values (name, turn) whose registers are free at a moment, ascending."""
        check_integer(moment)
        interval = self._spans.interval
        for name in self._spans.names:
            ticks = moment - self._spans[name][1]
            # Rounded up: the register waits at least up to the moment.
            first = -((self._follows[name][1] - ticks) // interval)
            for turn in range(first, ticks // interval + 1):
                yield (name, turn)

    def _is_free(self, moment, value):
        """Whether the value is one of those whose registers are free at a moment."""
        if not isinstance(value, tuple) or len(value) != 2 or not is_integer(value[1]):
            return False
        return value in list(self.each_free(moment))

    def exchanged(self, moment, one, other):
        """The wiring in which the registers of two values go on as each other's did."""
        check_integer(moment)
        for value in (one, other):
            if not self._is_free(moment, value):
                raise InvalidArgument(value)
        if one[0] == other[0]:
            raise InvalidArgument(other)
        follows = dict(self._follows)
        follows[one[0]] = self._going_on(one, other)
        follows[other[0]] = self._going_on(other, one)
        return Wiring(self._spans, follows)

    def _going_on(self, value, other):
        """The pair (next, wait) of a value whose register goes on as the one of the other did."""
        follower, wait = self._follows[other[0]]
        begin = self._end_of(other) + wait
        return follower, begin - self._end_of(value)

    def _end_of(self, value):
        return self._spans[value[0]][1] + self._spans.interval * value[1]

    def __getitem__(self, name):
        if name not in self._spans.names:
            raise UnknownName(name)
        return self._follows[name]

    def __iter__(self):
        raise TypeError("a wiring is not iterated over")

    def __len__(self):
        return len(self._cycles)

    def __eq__(self, other):
        return isinstance(other, Wiring) and self._spans == other._spans and self._follows == other._follows

    def __str__(self):
        return f"wiring of {self.registers} registers in {len(self._cycles)} cycles"


def _check_registers(spans, registers):
    check_spans(spans)
    check_between(registers, 0, MAX_WIRED)


def _ends_and_begins(spans):
    """The moments from a peak on at which the values of the names end and begin, as two dicts.

    In the tick of a peak all registers of a wiring with as few of them as
    possible hold values. So no register waits there, and from there on each
    value begins in a register that has become free since.
    """
    first = spans.peaks[0] + 1
    ends = {name: (spans[name][1] - first) % spans.interval for name in spans.names}
    begins = {name: (spans[name][0] - first) % spans.interval for name in spans.names}
    return ends, begins


def _in_turn(moments):
    """The names by their moments, ascending."""
    return [name for _, name in sorted([(moments[name], name) for name in moments])]


def _tight_follows(spans, nexts):
    """The pairs (next, wait) of a wiring with as many registers as the most."""
    ends, begins = _ends_and_begins(spans)
    return {name: (nexts[name], begins[nexts[name]] - ends[name]) for name in spans.names}


def _some_follows(spans, registers):
    """The pairs of some wiring with so many registers, which are at least the most."""
    ends, begins = _ends_and_begins(spans)
    follows = _tight_follows(spans, dict(zip(_in_turn(ends), _in_turn(begins))))
    # Each interval more that a register waits makes one register more.
    name = spans.names[0]
    follower, wait = follows[name]
    follows[name] = (follower, wait + spans.interval * (registers - spans.most))
    return follows


def wiring_paper(spans, registers):
    """("wiring", follows) with so many registers, or ("alive", slot) with more values alive."""
    _check_registers(spans, registers)
    if registers < spans.most:
        return ("alive", spans.peaks[0])
    return ("wiring", _some_follows(spans, registers))


def is_wiring_paper(spans, registers, value):
    """Whether the value is a paper of `wiring_paper`."""
    _check_registers(spans, registers)
    if not isinstance(value, tuple) or len(value) != 2:
        return False
    if value[0] == "alive":
        return is_between(value[1], 0, spans.interval - 1) and spans.alive(value[1]) > registers
    if value[0] != "wiring" or not is_wiring(spans, value[1]):
        return False
    return _size_of(spans, value[1], spans.names) == registers


def joined(wiring):
    """A wiring with as many registers and as few cycles as possible."""
    if not isinstance(wiring, Wiring):
        raise InvalidWiring(wiring)
    found = wiring
    for moment in range(wiring.spans.interval):
        pair = _pair_of_two_cycles(found, moment)
        while pair is not None:
            found = found.exchanged(moment, pair[0], pair[1])
            pair = _pair_of_two_cycles(found, moment)
    return found


def _pair_of_two_cycles(wiring, moment):
    """Two values of different cycles whose registers are free at a moment, or None."""
    free = list(wiring.each_free(moment))
    for value in free:
        cycle = [names for names in wiring.cycles if value[0] in names][0]
        if free[0][0] not in cycle:
            return free[0], value
    return None


def fewest_cycles(spans, registers):
    """The least number of cycles of a wiring with so many registers, or None without one."""
    _check_registers(spans, registers)
    if registers < spans.most:
        return None
    if registers > spans.most:
        return 1
    return len(spans.pieces)


def how_many(spans):
    """The number of all wirings with as many registers as the most."""
    check_spans(spans)
    ends, begins = _ends_and_begins(spans)
    found = 1
    for taken, name in enumerate(_in_turn(begins)):
        # Any register will do that is free by then and not taken again.
        free = len([end for end in ends.values() if end <= begins[name]]) - taken
        found = found * free
    return found


def each_wiring(spans):
    """All wirings with as many registers as the most, ascending by their `next` names."""
    check_spans(spans)
    ends, begins = _ends_and_begins(spans)
    names = spans.names
    # The last row of the stack is the least one that is left.
    rows = [()]
    while rows:
        row = rows.pop()
        if len(row) == len(names):
            yield Wiring(spans, _tight_follows(spans, dict(zip(names, row))))
        else:
            rows = rows + [(*row, name) for name in names[::-1]
                           if name not in row and _can_go_on(ends, begins, names, (*row, name))]


def _can_go_on(ends, begins, names, row):
    """Whether the names of the row can be the first `next` names of a wiring."""
    if begins[row[-1]] < ends[names[len(row) - 1]]:
        return False
    others = sorted([ends[name] for name in names[len(row):]])
    free = sorted([begins[name] for name in names if name not in row])
    return all([end <= begin for end, begin in zip(others, free)])
