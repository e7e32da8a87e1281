"""Files that stand still, for several copies of a round."""

from overrounds.base.numbers import check_between, common_multiple, is_between
from overrounds.errors import InvalidArgument, TooMany
from overrounds.file.circles import do_meet, is_longer, span_later
from overrounds.file.spans import check_spans
from overrounds.file.turning import turning_paper

MAX_COPIES = 6
MAX_PAIRS = 12
MAX_STILL = 64
MAX_LASTING = 64


def _check_copies(spans, copies):
    check_spans(spans)
    check_between(copies, 1, MAX_COPIES)


def _check_still(spans, copies, registers):
    _check_copies(spans, copies)
    check_between(registers, 1, MAX_STILL)


def _pairs_of(spans, copies):
    """All pairs (name, copy), ascending."""
    return [(name, copy) for name in spans.names for copy in range(copies)]


def _check_pairs(spans, copies):
    """Raise TooMany if there are too many pairs for a search."""
    if len(spans.names) * copies > MAX_PAIRS:
        raise TooMany(MAX_PAIRS)


def _covered(spans, pair):
    """The span that a pair covers on the circle."""
    return span_later(spans[pair[0]], spans.interval * pair[1])


def _meeting(spans, copies):
    """For each pair, by its index, the indices of the other pairs that it meets."""
    circle = copies * spans.interval
    covered = [_covered(spans, pair) for pair in _pairs_of(spans, copies)]
    return [[index for index, other in enumerate(covered) if index != at and do_meet(circle, span, other)]
            for at, span in enumerate(covered)]


def _long_names(spans, copies):
    """The names of all long spans, ascending."""
    return [name for name in spans.names if is_longer(copies * spans.interval, spans[name])]


def _is_pair(spans, copies, value):
    """Whether the value is a pair of a name and a copy."""
    if not isinstance(value, tuple) or len(value) != 2:
        return False
    return value[0] in spans.names and is_between(value[1], 0, copies - 1)


def is_places(spans, copies, registers, value):
    """Whether the value is places for so many copies and registers."""
    _check_still(spans, copies, registers)
    pairs = _pairs_of(spans, copies)
    if not isinstance(value, dict) or len(value) != len(pairs):
        return False
    # The keys are asked, too, as True among them would pass for 1.
    if not all([_is_pair(spans, copies, key) and is_between(value[key], 0, registers - 1) for key in value]):
        return False
    if _long_names(spans, copies):
        return False
    places = [value[pair] for pair in pairs]
    return not any([places[at] in [places[other] for other in others]
                    for at, others in enumerate(_meeting(spans, copies))])


def _closed(meeting, told, at):
    """The registers in which a told pair stands that the one at this index meets."""
    return [told[other] for other in meeting[at] if other in told]


def _open_ways(told, registers):
    """How many registers are used, and one that is new if there is one."""
    return min(max(told.values(), default=-1) + 2, registers)


def _next_index(meeting, told):
    """The index of the pair that is not told with the most closed registers."""
    rows = [(-len(set(_closed(meeting, told, at))), -len(meeting[at]), at)
            for at in range(len(meeting)) if at not in told]
    return sorted(rows)[0][2]


def _stood(pairs, meeting, registers, told):
    """("places", places) with the told ones, or ("tree", tree) that shows that there are none."""
    if len(told) == len(pairs):
        return ("places", {pair: told[at] for at, pair in enumerate(pairs)})
    at = _next_index(meeting, told)
    closed = _closed(meeting, told, at)
    branches = []
    for place in range(_open_ways(told, registers)):
        if place in closed:
            branches.append(None)
        else:
            kind, found = _stood(pairs, meeting, registers, {**told, at: place})
            if kind == "places":
                return (kind, found)
            branches.append(found)
    return ("tree", (pairs[at], tuple(branches)))


def _search(spans, copies, registers):
    """What `_stood` finds with no pair told, where no span is long."""
    return _stood(_pairs_of(spans, copies), _meeting(spans, copies), registers, {})


def still_paper(spans, copies, registers):
    """("places", places), or ("long", name), ("alive", tick) or ("tree", tree) that show that there are none."""
    _check_still(spans, copies, registers)
    long = _long_names(spans, copies)
    if long:
        return ("long", long[0])
    if spans.most > registers:
        return ("alive", spans.peaks[0])
    _check_pairs(spans, copies)
    return _search(spans, copies, registers)


def is_still_paper(spans, copies, registers, value):
    """Whether the value is a paper of `still_paper`."""
    _check_still(spans, copies, registers)
    if not isinstance(value, tuple) or len(value) != 2:
        return False
    kind, found = value
    if kind == "places":
        return is_places(spans, copies, registers, found)
    if kind == "long":
        return found in _long_names(spans, copies)
    if kind == "alive":
        return is_between(found, 0, spans.interval - 1) and spans.alive(found) > registers
    return kind == "tree" and TreeJudge(spans, copies, registers).is_right({}, found)


class TreeJudge:
    """Judges trees for some spans, copies and registers."""

    def __init__(self, spans, copies, registers):
        self._spans = spans
        self._copies = copies
        self._registers = registers
        self._pairs = _pairs_of(spans, copies)
        self._meeting = _meeting(spans, copies)

    def is_right(self, told, value):
        """Whether the value is a tree behind the told pairs, which are told by their indices."""
        if not isinstance(value, tuple) or len(value) != 2:
            return False
        pair, branches = value
        if not _is_pair(self._spans, self._copies, pair) or not isinstance(branches, tuple):
            return False
        at = self._pairs.index(pair)
        if at in told or len(branches) != _open_ways(told, self._registers):
            return False
        closed = _closed(self._meeting, told, at)
        for place, branch in enumerate(branches):
            if place in closed and branch is not None:
                return False
            if place not in closed and not self.is_right({**told, at: place}, branch):
                return False
        return True


def least_still(spans, copies):
    """The least number of registers with places, or None if a span is long."""
    _check_copies(spans, copies)
    if _long_names(spans, copies):
        return None
    _check_pairs(spans, copies)
    registers = spans.most
    while _search(spans, copies, registers)[0] != "places":
        registers = registers + 1
    return registers


def fitting_copies(spans, registers):
    """The numbers of copies with at most twelve pairs for which there are places, ascending."""
    check_spans(spans)
    check_between(registers, 1, MAX_STILL)
    most = min(MAX_COPIES, MAX_PAIRS // len(spans.names))
    return tuple([copies for copies in range(1, most + 1) if still_paper(spans, copies, registers)[0] == "places"])


def each_places(spans, copies, registers):
    """All places in which a pair stands where a lesser one does, or in the least register in which none does."""
    _check_still(spans, copies, registers)
    long = _long_names(spans, copies)
    if not long:
        _check_pairs(spans, copies)
    pairs = _pairs_of(spans, copies)
    meeting = _meeting(spans, copies)
    # The last row of the stack is the least one that is left. Without it there is nothing to find.
    rows = [] if long or spans.most > registers else [()]
    while rows:
        row = rows.pop()
        if len(row) == len(pairs):
            yield {pair: row[at] for at, pair in enumerate(pairs)}
        else:
            closed = [row[other] for other in meeting[len(row)] if other < len(row)]
            ways = min(max(row, default=-1) + 2, registers)
            rows = rows + [(*row, place) for place in reversed(range(ways)) if place not in closed]


def enough_copies(spans):
    """The least common multiple of the mosts of the pieces."""
    check_spans(spans)
    mosts = [spans.most_of(*piece) for piece in spans.pieces]
    return common_multiple(*mosts)


def lasting_places(spans, copies):
    """Places with as few registers as can be, for a multiple of `enough_copies`."""
    check_spans(spans)
    check_between(copies, 1, MAX_LASTING)
    if copies % enough_copies(spans) != 0:
        raise InvalidArgument(copies)
    places = {}
    first = 0
    for piece in spans.pieces:
        part = spans & piece
        # Each piece turns by one register each round in registers of its own.
        bases = turning_paper(part, part.most)[1]
        for name, copy in _pairs_of(part, copies):
            places[name, copy] = first + (bases[name] + copy) % part.most
        first = first + part.most
    return {pair: places[pair] for pair in sorted(places)}


def chart(spans, copies, registers, places):
    """For each register the pairs that cover the ticks of the circle, None for a free tick."""
    if not is_places(spans, copies, registers, places):
        raise InvalidArgument(places)
    circle = copies * spans.interval
    rows = [[None for _ in range(circle)] for _ in range(registers)]
    for pair in _pairs_of(spans, copies):
        begin, end = _covered(spans, pair)
        for tick in range(begin, end):
            rows[places[pair]][tick % circle] = pair
    return tuple([tuple(row) for row in rows])
