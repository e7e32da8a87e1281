"""Writing and reading: each value has one text."""

from overrounds.base.numbers import check_interval
from overrounds.errors import InvalidArgument, ParseError
from overrounds.file.spans import Spans, check_spans
from overrounds.file.turning import check_bases
from overrounds.loop.loops import Loop, Operation, check_loop
from overrounds.plan.machines import Machine, check_machine
from overrounds.plan.plans import check_starts
from overrounds.text.lines import head_of, lines_of, parts_of_line, parts_of_operation, rows_of
from overrounds.text.shapes import check_end, has_form, lines_of_tree, row_of_tree, tree_of_rows

NO_UNITS = "unit -"


def write_loop(loop):
    """The text of a loop."""
    check_loop(loop)
    operations = [f"op {str(one)}" for one in loop.operations]
    orders = [f"order {source} {target} {delay} {distance}" for source, target, delay, distance in loop.orders]
    return "\n".join(operations + orders)


def _loop_row(line):
    """The key of a line of a loop and what it tells, or None."""
    parts = parts_of_operation(line)
    if parts is not None:
        return ("op", parts[0]), parts
    order = parts_of_line(line, "order", "nnii")
    return None if order is None else (("order", *order), order)


def read_loop(text):
    """The loop of a text."""
    rows = rows_of(lines_of(text), 0, _loop_row)
    operations = [Operation(name, ticks=ticks, reads=reads, uses=uses)
                  for name, ticks, reads, uses in [rows[key] for key in rows if key[0] == "op"]]
    orders = sorted([rows[key] for key in rows if key[0] == "order"])
    return Loop.of(tuple(operations), orders=tuple(orders))


def _named_row(line, first, form):
    """The name of a line and what it tells behind it, or None."""
    parts = parts_of_line(line, first, form)
    return None if parts is None else (parts[0], parts[1:])


def _ticks_of(rows):
    """A dict from the names, ascending, to the single integer that each line tells."""
    return {name: rows[name][0] for name in sorted(rows)}


def write_machine(machine):
    """The text of a machine."""
    check_machine(machine)
    return "\n".join([f"unit {unit} {machine[unit]}" for unit in machine]) or NO_UNITS


def _unit_row(line):
    return _named_row(line, "unit", "ni")


def read_machine(text):
    """The machine of a text."""
    lines = lines_of(text)
    if text == NO_UNITS:
        return Machine()
    return Machine.of(_ticks_of(rows_of(lines, 0, _unit_row)))


def write_plan(loop, interval, starts):
    """The text of starts of a loop, plan or not."""
    check_loop(loop)
    check_interval(interval)
    check_starts(loop, starts)
    return "\n".join([f"interval {interval}", *[f"start {name} {starts[name]}" for name in loop.names]])


def _start_row(line):
    return _named_row(line, "start", "ni")


def read_plan(loop, text):
    """The pair (interval, starts) of a text."""
    check_loop(loop)
    lines = lines_of(text)
    interval = head_of(lines, "interval")
    starts = _ticks_of(rows_of(lines, 1, _start_row))
    check_interval(interval)
    check_starts(loop, starts)
    return interval, starts


def write_tree(loop, interval, tree):
    """The text of a tree, right or not."""
    check_loop(loop)
    check_interval(interval)
    if not has_form(loop, interval, (), tree):
        raise InvalidArgument(tree)
    return "\n".join(lines_of_tree(tree))


def read_tree(loop, interval, text):
    """The tree of a text, right or not."""
    check_loop(loop)
    check_interval(interval)
    rows = [row_of_tree(line) for line in lines_of(text)]
    if None in rows:
        raise ParseError(rows.index(None))
    check_end(rows)
    tree = tree_of_rows(rows)
    if not has_form(loop, interval, (), tree):
        raise InvalidArgument(tree)
    return tree


def write_spans(spans):
    """The text of spans."""
    check_spans(spans)
    rows = [f"span {name} {begin} {end}" for name, (begin, end) in spans.rows.items()]
    return "\n".join([f"interval {spans.interval}", *rows])


def _span_row(line):
    return _named_row(line, "span", "nii")


def read_spans(text):
    """The spans of a text."""
    lines = lines_of(text)
    interval = head_of(lines, "interval")
    return Spans(interval, rows_of(lines, 1, _span_row))


def write_bases(spans, registers, bases):
    """The text of bases."""
    check_bases(spans, registers, bases)
    return "\n".join([f"registers {registers}", *[f"base {name} {bases[name]}" for name in spans.names]])


def _base_row(line):
    return _named_row(line, "base", "ni")


def read_bases(spans, text):
    """The pair (registers, bases) of a text."""
    check_spans(spans)
    lines = lines_of(text)
    registers = head_of(lines, "registers")
    bases = _ticks_of(rows_of(lines, 1, _base_row))
    check_bases(spans, registers, bases)
    return registers, bases
