"""Trees as lines, and the form of a tree, right or not.

A line of a tree is a tuple ("unit", unit, slot), ("circuit", circuit) or
("split", name, many), with the number of the trees behind it.
"""

from overrounds.base.numbers import is_between
from overrounds.errors import ParseError
from overrounds.text.lines import parts_of_circuit, parts_of_line
from overrounds.units.ways import is_circuit


def has_form(loop, interval, split, value):
    """Whether the value has the form of a tree, behind the names that are split."""
    if not isinstance(value, tuple) or len(value) not in (2, 3):
        return False
    if len(value) == 2:
        return value[0] == "circuit" and is_circuit(loop, value[1])
    kind, name, rest = value
    if kind == "unit":
        return name in loop.units and is_between(rest, 0, interval - 1)
    if kind != "split" or name not in loop.names or name in split:
        return False
    if not isinstance(rest, tuple) or not 1 <= len(rest) <= interval:
        return False
    return all([has_form(loop, interval, (*split, name), tree) for tree in rest])


def lines_of_tree(tree):
    """The lines of a tree as texts."""
    if tree[0] == "unit":
        return [f"unit {tree[1]} {tree[2]}"]
    if tree[0] == "circuit":
        return [" ".join(["circuit", *[str(index) for index in tree[1]]])]
    lines = [f"split {tree[1]} {len(tree[2])}"]
    for one in tree[2]:
        lines.extend(lines_of_tree(one))
    return lines


def row_of_tree(line):
    """What a line of a tree tells, or None."""
    for kind in ("unit", "split"):
        parts = parts_of_line(line, kind, "ni")
        if parts is not None:
            return (kind, *parts)
    indices = parts_of_circuit(line)
    return None if indices is None else ("circuit", indices)


def check_end(rows):
    """Raise ParseError unless the tree ends just with its last line."""
    # So many trees are still to come.
    lacking = 1
    for at, row in enumerate(rows):
        if lacking == 0:
            raise ParseError(at)
        lacking = lacking - 1
        if row[0] == "split":
            lacking = lacking + max(0, row[2])
    if lacking > 0:
        raise ParseError(len(rows))


def tree_of_rows(rows):
    """The tree of its lines."""
    # From the last line on, so that the trees behind a split are there when it comes.
    trees = []
    for row in reversed(list(rows)):
        if row[0] == "split":
            inner = []
            for _ in range(row[2]):
                inner.append(trees.pop())
            trees.append((row[0], row[1], tuple(inner)))
        else:
            trees.append(row)
    return trees[0]
