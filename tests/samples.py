"""What several tests use: loops, values of all kinds, and slow ways to know the answers."""

from inspect import isgenerator
from itertools import permutations, product
from random import Random

from overrounds.code.kernels import kernel_of
from overrounds.errors import Broken, InvalidLoop, InvalidNumber, NothingToUndo, RoundError, TooMany, UnknownName
from overrounds.file.spans import Spans, spans_of
from overrounds.file.turning import least_turning, turning_paper
from overrounds.loop.loops import Loop, Operation
from overrounds.plan.machines import Machine
from overrounds.rings.starts import free_interval, least_starts

SUM = Loop(Operation("item", uses=(("mem", 0),)),
           Operation("sum", ticks=2, reads=(("sum", 1), ("item", 0)), uses=(("add", 0), ("add", 1))))
MEET = Loop(Operation("u", reads=(("v", 1),), uses=(("p", 0),)), Operation("v", reads=(("u", 0),), uses=(("p", 1),)))
ROUND = Loop(Operation("a", ticks=2, reads=(("c", 2),)), Operation("b", reads=(("a", 0),)),
             Operation("c", ticks=2, reads=(("b", 0),)))
P = Machine(p=1)
BOTH = Machine(add=1, mem=1)
FIVE = Loop(*[Operation(name, uses=(("p", 0),)) for name in "abcde"])
FOUR = Loop(*[Operation(name, uses=(("p", 0),)) for name in "abcd"], Operation("e"))
# MEET has no plan on P with the interval 2.
TREE = ("split", "u", (("split", "v", (("circuit", (0, 1)), ("unit", "p", 0))),))
# Starts of SUM, what is none, and what is no interval.
GOOD = {"item": 0, "sum": 1}
NO_STARTS = [{}, {"item": 0}, {"sum": 0}, {**GOOD, "x": 0}, {"item": 0, "x": 0}, {"item": -1, "sum": 1},
             {"item": 0, "sum": 10 ** 6 + 1}, {"item": 0, "sum": True}, {"item": False, "sum": 1},
             {"item": 0, "sum": None}, {"item": 0, "sum": "1"}, {"item": (0,), "sum": 1}, {"item": 0, "sum": 10 ** 39},
             {"item": [0], "sum": 1}, {"item": 0, 1: 1}, {"item": 0, None: 1}, {"item": 0, ("sum",): 1},
             (("item", 0), ("sum", 1)), [0, 1], (0, 1)]
NO_INTERVALS = (0, 33, -1, True, False, None, "2", (2,), [2], {2: 2}, 10 ** 12, 10 ** 39, SUM)



def nested(depth, row):
    """A value so many tuples or lists deep."""
    value = "a"
    for _ in range(depth):
        value = row([value])
    return value


def all_kinds():
    """New values of all kinds that can be passed; none is a name or an integer from 0 to 64."""
    return [
        None, True, False, "", "A", "aB", "a1", "1", "a b", "a\n", "\n", " a", "-", "abcdefghi", "a" * 300,
        -1, 65, 10 ** 12, -10 ** 12, 10 ** 39, -10 ** 39,
        (), [], {}, ("a",), ["a"], {"a": "a"}, {"a": 1}, {1: "a"}, {("a", 1): None}, ("a", 1), [("a", 1)], (("a", 1),),
        ((("a", 1),),), (None,), (True,), [[]], ((),), {None: [{}]}, nested(30, tuple), nested(30, list),
        Operation("a"), SUM, MEET, (SUM,), [Operation("a")], (Operation("a"), "a"), P, [P],
    ]


def slow_rings(loop):
    """All rings of a loop, by trying all rows of names."""
    found = []
    for many in range(1, len(loop) + 1):
        for names in permutations(loop.names, many):
            if names[0] != min(names):
                continue
            steps = zip(names, names[1:] + names[:1])
            choices = [[k for k, arc in enumerate(loop.arcs) if arc[:2] == step] for step in steps]
            found.extend(product(*choices))
    return sorted(found)


def slow_value(loop, meaning, name, turn):
    """The value that an operation has in a round, by what the operation reads."""
    if turn < 0:
        return meaning(name, turn, ())
    read = [slow_value(loop, meaning, source, turn - back) for source, back in loop[name].reads]
    return meaning(name, turn, tuple(read))


def has_round_order(names, arcs):
    """Whether the names have an order in which each arc of distance 0 leads on."""
    pairs = [arc[:2] for arc in arcs if arc[3] == 0]
    return any(all(row.index(a) < row.index(b) for a, b in pairs) for row in permutations(names))


def some_parts(seed):
    """Operations and orders of up to five names, perhaps with a ring of distance 0."""
    draw = Random(seed)
    names = draw.sample("abcdefgh", draw.randint(1, 5))
    operations = []
    for name in names:
        reads = tuple((draw.choice(names), draw.choice((0, 0, 1, 2, 3))) for _ in range(draw.randint(0, 3)))
        uses = tuple(sorted({(draw.choice("pq"), draw.randint(0, 3)) for _ in range(draw.randint(0, 4))}))
        operations.append(Operation(name, ticks=draw.randint(1, 4), reads=reads, uses=uses))
    orders = {(draw.choice(names), draw.choice(names), draw.randint(0, 4), draw.choice((0, 1, 2, 3)))
              for _ in range(draw.choice((0, 0, 1, 2, 4)))}
    return operations, tuple(sorted(orders))


def some_loops(many, first=0):
    """The loops among so many of `some_parts`."""
    loops = []
    for seed in range(first, first + many):
        operations, orders = some_parts(seed)
        try:
            loops.append(Loop(*operations, orders=orders))
        except InvalidLoop:
            continue
    return loops


def error_of(call, *told, **keywords):
    """The class of the error that a call raises, and the error; None and what it returns if it raises none."""
    try:
        value = call(*told, **keywords)
        if isgenerator(value):
            list(value)
    except (RoundError, UnknownName, InvalidNumber, TooMany, NothingToUndo, Broken) as error:
        return type(error), error
    return None, value


def slow_fits(loop, interval, starts):
    """Whether starts fit a loop, arc by arc."""
    return all(starts[b] - starts[a] >= delay - interval * back for a, b, delay, back in loop.arcs)


def slow_crowded(loop, machine, interval, starts):
    """The pairs (unit, slot) with a tick in which a unit is asked for too often, counted tick by tick."""
    rounds = (max(starts.values()) - min(starts.values()) + 4) // interval + 3
    asked = {}
    for name in loop.names:
        for turn in range(rounds):
            for unit, offset in loop[name].uses:
                place = (unit, starts[name] + offset + interval * turn)
                asked[place] = asked.get(place, 0) + 1
    return sorted({(unit, tick % interval) for (unit, tick), many in asked.items() if many > machine[unit]})


def all_starts(loop, ticks):
    """All starts of a loop at some ticks."""
    return [dict(zip(loop.names, row)) for row in product(ticks, repeat=len(loop))]


def slow_need(loop, interval, slots, circuit):
    """What a circuit needs, by walking along it from a told slot and waiting for each one."""
    rows = [loop.arcs[index] for index in circuit]
    for at, row in enumerate(rows):
        if row[0] in slots:
            rows = rows[at:] + rows[:at]
            break
    tick = begin = slots.get(rows[0][0], 0)
    for _, target, delay, distance in rows:
        tick += delay - interval * distance
        while target in slots and tick % interval != slots[target]:
            tick += 1
    return tick - begin


def machine_for(loop, most=1):
    """A machine that has each unit of a loop so often."""
    return Machine.of({unit: most for unit in loop.units})


def told_slots(names, interval):
    """All told slots of just these names."""
    return [dict(zip(names, row)) for row in product(range(interval), repeat=len(names))]


def slow_alive(rows, interval, tick, names=None):
    """The values of spans that are alive in a tick, by trying turns, ascending."""
    found = []
    for name in sorted(rows if names is None else set(names)):
        begin, end = rows[name]
        middle = (tick - begin) // interval
        found += [(name, turn) for turn in range(middle - 12, middle + 12)
                  if begin + interval * turn <= tick < end + interval * turn]
    return found


def slow_across(rows, interval, moment, names=None):
    """The values that are alive in the ticks on both sides of a moment."""
    behind = slow_alive(rows, interval, moment, names)
    return [value for value in slow_alive(rows, interval, moment - 1, names) if value in behind]


def some_rows(seed, most=8, letters="abcdefgh"):
    """An interval and spans of some names."""
    draw = Random(seed)
    interval = draw.choice((1, 2, 3, 4, 5, 7))
    rows = {}
    for name in draw.sample(letters, draw.randint(1, most)):
        begin = draw.randint(-9, 9)
        rows[name] = (begin, begin + draw.randint(1, draw.choice((interval, interval, 2 * interval, 8 * interval))))
    return interval, rows


def some_spans(first, many, most=8):
    """So many spans of `some_rows`."""
    return [Spans(*some_rows(seed, most)) for seed in range(first, first + many)]


def slow_run(kernel, rounds):
    """All readings (tick, name, round, index, what it finds) of a run, by a file that is written tick by tick."""
    writings, readings = {}, {}
    for slot, row in enumerate(kernel.rows):
        for name, stage, target, sources in row:
            for turn in range(-3, rounds):
                tick = slot + kernel.interval * (turn + stage)
                there = tick + kernel.loop[name].ticks
                writings.setdefault(there, []).append((name, turn, (target + turn + stage) % kernel.registers))
                if turn >= 0:
                    places = [(place + turn + stage) % kernel.registers for place in sources]
                    readings.setdefault(tick, []).append((name, turn, places))
    file, found = [None] * kernel.registers, []
    for tick in sorted({*writings, *readings}):
        for name, turn, place in sorted(writings.get(tick, ())):
            file[place] = (name, turn)
        for name, turn, places in sorted(readings.get(tick, ())):
            found += [(tick, name, turn, index, file[place]) for index, place in enumerate(places)]
    return found


def slow_wrong(kernel, rounds):
    """All wrong readings of a run."""
    wrong = []
    for tick, name, turn, index, value in slow_run(kernel, rounds):
        source, distance = kernel.loop[name].reads[index]
        if value != (source, turn - distance):
            wrong.append((tick, name, turn, index, value))
    return wrong


def some_kernels(seed, many):
    """Kernels of drawn starts and bases, most of them wrong."""
    draw, kernels = Random(seed), []
    loops = some_loops(200, seed)
    for _ in range(many):
        loop, interval, registers = draw.choice(loops), draw.randint(1, 5), draw.randint(1, 8)
        highest = draw.choice((interval, 3 * interval, 6 * interval))
        starts = {name: draw.randint(0, highest) for name in loop}
        kernels.append(kernel_of(loop, interval, starts, registers,
                                 {name: draw.randint(0, registers - 1) for name in loop}))
    return kernels


def right_kernels(seed, many):
    """Kernels of starts that fit and of bases."""
    draw, kernels = Random(seed), []
    for loop in some_loops(many, seed):
        interval = free_interval(loop) + draw.choice((0, 0, 1, 3))
        starts = least_starts(loop, interval)
        spans = spans_of(loop, interval, starts)
        registers = least_turning(spans) + draw.choice((0, 0, 1))
        kernels.append(kernel_of(loop, interval, starts, registers, turning_paper(spans, registers)[1]))
    return kernels
