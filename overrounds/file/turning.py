"""Files that turn by one register each round."""

from overrounds.base.numbers import check_between, check_integer, is_between
from overrounds.errors import InvalidArgument, InvalidWiring, TooMany
from overrounds.file.circles import do_meet, is_longer, span_later
from overrounds.file.spans import check_spans
from overrounds.file.wirings import Wiring, joined, wiring_paper
from overrounds.loop.rows import ascends, is_table

MAX_FILE = 72
MAX_LISTED = 6


def _check_file(spans, registers):
    check_spans(spans)
    check_between(registers, 1, MAX_FILE)


def check_bases(spans, registers, bases):
    """Raise an error unless they are spans, a number of registers and bases for so many."""
    if not is_bases(spans, registers, bases):
        raise InvalidArgument(bases)


def _placed(spans, name, base):
    """The span of a name where it lies on the circle with this base."""
    return span_later(spans[name], -spans.interval * base)


def is_bases(spans, registers, value):
    """Whether the value is bases for so many registers."""
    _check_file(spans, registers)
    if not is_table(spans.names, value, 0, registers - 1):
        return False
    circle = registers * spans.interval
    placed = [_placed(spans, name, value[name]) for name in spans.names]
    if any([is_longer(circle, span) for span in placed]):
        return False
    return not any([do_meet(circle, one, other) for at, one in enumerate(placed) for other in placed[:at]])


def turning_paper(spans, registers):
    """("bases", bases), or ("alive", slot) or ("apart", names) that show that there are none."""
    _check_file(spans, registers)
    if registers < spans.most:
        return ("alive", spans.peaks[0])
    if registers == spans.most and len(spans.pieces) > 1:
        return ("apart", spans.pieces[0])
    # Otherwise some wiring with so many registers has a single cycle.
    return ("bases", bases_of(joined(Wiring(spans, wiring_paper(spans, registers)[1]))))


def is_turning_paper(spans, registers, value):
    """Whether the value is a paper of `turning_paper`."""
    _check_file(spans, registers)
    if not isinstance(value, tuple) or len(value) != 2:
        return False
    if value[0] == "bases":
        return is_bases(spans, registers, value[1])
    if value[0] == "alive":
        return is_between(value[1], 0, spans.interval - 1) and spans.alive(value[1]) > registers
    return value[0] == "apart" and registers == spans.most and _are_apart(spans, value[1])


def _are_apart(spans, value):
    """Whether the value is an ascending tuple of names that are apart."""
    if not isinstance(value, tuple) or not all([name in spans.names for name in value]):
        return False
    return ascends(value) and spans.is_apart(*value)


def least_turning(spans):
    """The least number of registers with bases."""
    check_spans(spans)
    if len(spans.pieces) > 1:
        return spans.most + 1
    return spans.most


def trip(spans, order):
    """The wiring of one cycle in this order, with all waits below the interval."""
    check_spans(spans)
    if not isinstance(order, tuple) or len(order) != len(spans.names):
        raise InvalidArgument(order)
    if not all([name in order for name in spans.names]):
        raise InvalidArgument(order)
    follows = {}
    for at, follower in enumerate(order):
        # The index -1 closes the cycle.
        name = order[at - 1]
        follows[name] = (follower, (spans[follower][0] - spans[name][1]) % spans.interval)
    return Wiring(spans, follows)


def bases_of(wiring, *, base=0):
    """The bases of a wiring of one cycle in which its least name has this base."""
    if not isinstance(wiring, Wiring):
        raise InvalidWiring(wiring)
    check_between(base, 0, wiring.registers - 1)
    if len(wiring.cycles) > 1:
        raise InvalidArgument(wiring)
    bases = {}
    for name in wiring.cycles[0]:
        bases[name] = base
        # The register of the value of round 0 holds that of the round `turn` next.
        turn = wiring.after(name, 0)[1]
        base = (base - turn) % wiring.registers
    return {name: bases[name] for name in wiring.spans.names}


def wiring_of(spans, registers, bases):
    """The wiring of bases."""
    check_bases(spans, registers, bases)
    circle = registers * spans.interval
    row = sorted([(_placed(spans, name, bases[name])[0] % circle, name) for name in spans.names])
    follows = {}
    for at, (begin, follower) in enumerate(row):
        name = row[at - 1][1]
        follows[name] = (follower, (begin - _placed(spans, name, bases[name])[1]) % circle)
    return Wiring(spans, follows)


def held(spans, registers, bases, tick):
    """For each register the value (name, round) that it holds in a tick, or None."""
    check_bases(spans, registers, bases)
    check_integer(tick)
    row = [None for _ in range(registers)]
    for name, turn in spans.each_alive(tick):
        row[(bases[name] + turn) % registers] = (name, turn)
    return tuple(row)


def each_bases(spans, registers):
    """All bases in which the least name has base 0, ascending by the tuples of their integers."""
    _check_file(spans, registers)
    if len(spans.names) > MAX_LISTED:
        raise TooMany(MAX_LISTED)
    # The last row of the stack is the least one that is left. Without it there is nothing to find.
    rows = [(0,)] if registers >= least_turning(spans) else []
    while rows:
        row = rows.pop()
        if len(row) == len(spans.names):
            yield dict(zip(spans.names, row))
        else:
            for base in reversed(range(registers)):
                if _can_have(spans, registers, row, base):
                    rows.append((*row, base))


def _can_have(spans, registers, row, base):
    """Whether the name behind those of the row can have this base beside them."""
    circle = registers * spans.interval
    placed = _placed(spans, spans.names[len(row)], base)
    return not any([do_meet(circle, placed, _placed(spans, name, other)) for name, other in zip(spans.names, row)])
