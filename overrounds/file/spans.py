"""Spans: when the values of a loop are alive."""

from overrounds.base.numbers import check_integer, check_interval, is_integer, is_name, times_alive
from overrounds.errors import InvalidArgument, InvalidSpans, TooMany, UnknownName
from overrounds.loop.loops import check_loop
from overrounds.loop.rows import ascends
from overrounds.plan.plans import check_starts, is_fitting

MAX_VALUES = 8
MAX_LIFE = 8


def _is_span(interval, value):
    """Whether the value is a pair (begin, end) that is neither empty nor too long."""
    if not isinstance(value, tuple) or len(value) != 2:
        return False
    if not is_integer(value[0]) or not is_integer(value[1]):
        return False
    return 1 <= value[1] - value[0] <= MAX_LIFE * interval


def _are_rows(interval, value):
    """Whether the value is a dict from one to eight names to spans."""
    if not isinstance(value, dict) or not 1 <= len(value) <= MAX_VALUES:
        return False
    return all([is_name(name) and _is_span(interval, value[name]) for name in value])


def _merged(parts, names):
    """The parts, of which those with some of the names are now one."""
    chosen = [part for part in parts if any([name in part for name in names])]
    others = [part for part in parts if part not in chosen]
    return others + [tuple([name for part in chosen for name in part])]


class Spans:
    """An interval and a span for each name. They never change."""

    def __init__(self, interval, rows):
        check_interval(interval)
        if not _are_rows(interval, rows):
            raise InvalidSpans(rows)
        self._interval = interval
        self._rows = {name: rows[name] for name in sorted(rows)}
        self._names = tuple(self._rows)
        self._living = {name: [times_alive(begin, end, slot, interval) for slot in range(interval)]
                        for name, (begin, end) in self._rows.items()}
        # A value is across a moment if it is alive behind it and was so one tick before.
        self._crossing = {name: [times_alive(begin + 1, end, slot, interval) for slot in range(interval)]
                          for name, (begin, end) in self._rows.items()}

    @property
    def interval(self):
        return self._interval

    @property
    def rows(self):
        """A dict from the names to their spans."""
        return dict(self._rows)

    @property
    def names(self):
        """The names, ascending."""
        return self._names

    @property
    def most(self):
        """The greatest number of values that are alive in one tick."""
        return max(self._sums(self._living, self._names))

    @property
    def peaks(self):
        """The slots in which so many values are alive, ascending."""
        counts = self._sums(self._living, self._names)
        most = max(counts)
        return tuple([slot for slot, many in enumerate(counts) if many == most])

    @property
    def total(self):
        """The sum of the lengths of all spans."""
        return sum([end - begin for begin, end in self._rows.values()])

    @property
    def pieces(self):
        """The pieces as ascending tuples, ascending."""
        peak = self.peaks[0]
        parts = self._linked(peak)
        for slot in range(self._interval):
            # Registers of several parts that are free at one moment can go on as each other's would.
            free = [part[0] for part in parts if self._has_free(part, peak, slot)]
            if free:
                parts = _merged(parts, free)
        return tuple(sorted([tuple(sorted(part)) for part in parts]))

    @property
    def normal(self):
        """The spans, each moved by whole rounds to begin in a slot."""
        rows = {name: (begin % self._interval, begin % self._interval + end - begin)
                for name, (begin, end) in self._rows.items()}
        return Spans(self._interval, rows)

    def _sums(self, counts, names):
        """The counts of some names together, for each slot."""
        return [sum([counts[name][slot] for name in names]) for slot in range(self._interval)]

    def _chosen(self, names):
        """The names, ascending and each once; UnknownName if one is none of the spans."""
        for name in names:
            if name not in self._names:
                raise UnknownName(name)
        return tuple(sorted(set(names)))

    def alive(self, tick, *names):
        """How many values, of these names if there are any, are alive in a tick."""
        check_integer(tick)
        chosen = self._chosen(names) or self._names
        return sum([self._living[name][tick % self._interval] for name in chosen])

    def across(self, moment, *names):
        """How many values, of these names if there are any, are across a moment."""
        check_integer(moment)
        chosen = self._chosen(names) or self._names
        return sum([self._crossing[name][moment % self._interval] for name in chosen])

    def is_full(self, moment, *names):
        """Whether as many values of these names, or of all, are across a moment as their most."""
        check_integer(moment)
        chosen = self._chosen(names) or self._names
        return self._full_slots(chosen)[moment % self._interval]

    def most_of(self, *names):
        """The greatest number of values of these names that are alive in one tick."""
        return max(self._sums(self._living, self._chosen(names)))

    def _full_slots(self, names):
        """For each slot, whether the names are full at its moments."""
        most = max(self._sums(self._living, names))
        return [many == most for many in self._sums(self._crossing, names)]

    def is_apart(self, *names):
        """Whether at each moment these names or all others are full."""
        chosen = self._chosen(names)
        others = [name for name in self._names if name not in chosen]
        if not chosen or not others:
            return False
        return all([one or other for one, other in zip(self._full_slots(chosen), self._full_slots(others))])

    def _linked(self, peak):
        """The parts of the names whose values go round in common registers, none of which waits in a peak."""
        # From the peak on, the values that begin take the registers in the order in which they become free.
        first = peak + 1
        ends = sorted([((end - first) % self._interval, name) for name, (_, end) in self._rows.items()])
        begins = sorted([((begin - first) % self._interval, name) for name, (begin, _) in self._rows.items()])
        parts = [(name,) for name in self._names]
        for end, begin in zip(ends, begins):
            parts = _merged(parts, (end[1], begin[1]))
        return parts

    def _has_free(self, names, peak, slot):
        """Whether a register of these names, all of which hold values in the peak, is free at the moments of a slot."""
        return sum([self._crossing[name][slot] - self._living[name][peak] for name in names]) < 0

    def each_alive(self, tick):
        """The values (name, turn) that are alive in a tick, ascending."""
        check_integer(tick)
        for name, (begin, end) in self._rows.items():
            last = (tick - begin) // self._interval
            many = self._living[name][tick % self._interval]
            for turn in range(last - many + 1, last + 1):
                yield (name, turn)

    def __getitem__(self, name):
        if name not in self._names:
            raise UnknownName(name)
        return self._rows[name]

    def __contains__(self, value):
        return value in self._names

    def __len__(self):
        return len(self._names)

    def __iter__(self):
        return iter(self._names)

    def _later(self, ticks):
        """The rows with all spans later by so many ticks."""
        return {name: (begin + ticks, end + ticks) for name, (begin, end) in self._rows.items()}

    def __add__(self, other):
        if not is_integer(other) or not _are_rows(self._interval, self._later(other)):
            raise InvalidArgument(other)
        return Spans(self._interval, self._later(other))

    def __or__(self, other):
        if not isinstance(other, Spans) or self._interval != other._interval:
            raise InvalidArgument(other)
        if any([name in self._names for name in other._names]):
            raise InvalidArgument(other)
        rows = {**self._rows, **other._rows}
        if len(rows) > MAX_VALUES:
            raise InvalidArgument(other)
        return Spans(self._interval, rows)

    def __and__(self, other):
        if not isinstance(other, tuple) or not other:
            raise InvalidArgument(other)
        if not all([name in self._names for name in other]) or not ascends(other):
            raise InvalidArgument(other)
        return Spans(self._interval, {name: self._rows[name] for name in other})

    def __eq__(self, other):
        return isinstance(other, Spans) and self._interval == other._interval and self._rows == other._rows

    def __str__(self):
        return f"spans of {len(self._names)} names in {self._interval} ticks"


def check_spans(value):
    """Raise InvalidSpans unless the value is spans."""
    if not isinstance(value, Spans):
        raise InvalidSpans(value)


def span_rows(loop, interval, starts):
    """The dict from all names to the spans of their values, however long they are."""
    rows = {}
    for one in loop.operations:
        begin = starts[one.name] + one.ticks
        # The value of a round is read so many rounds later as the distance tells.
        read = [starts[reader] + interval * distance for name, reader, distance in loop.readings if name == one.name]
        rows[one.name] = (begin, max(read, default=begin) + 1)
    return rows


def are_short(interval, rows):
    """Whether no span is longer than spans can be."""
    return all([end - begin <= MAX_LIFE * interval for begin, end in rows.values()])


def check_fitting(loop, interval, starts):
    """Raise an error unless the starts are starts of the loop and fit it."""
    check_loop(loop)
    check_interval(interval)
    check_starts(loop, starts)
    if not is_fitting(loop, interval, starts):
        raise InvalidArgument(starts)


def spans_of(loop, interval, starts):
    """The spans of the values of a loop."""
    check_fitting(loop, interval, starts)
    rows = span_rows(loop, interval, starts)
    if not are_short(interval, rows):
        raise TooMany(MAX_LIFE)
    return Spans(interval, rows)
