"""Properties and operators change nothing when they run, and what would change something is found."""

import ast
import unittest

from overrounds.code.kernels import kernel_of
from overrounds.file.spans import Spans
from overrounds.file.wirings import Wiring
from overrounds.live.desk import Desk
from overrounds.loop.loops import Loop, Operation
from overrounds.plan.machines import Machine
from overrounds.plan.plans import Plan

from quiet import Package, is_property, trees_by_module
from samples import BOTH, GOOD, MEET, P, SUM

# What may not stand in a property of the class Box, which holds rows, another box, a function and what it kept.
WRONG = {
    "stores": "self._kept = 1\nreturn self._kept",
    "keeps an answer": "if self._kept is None:\n    self._kept = len(self._rows)\nreturn self._kept",
    "stores one of two": "one, self._kept = 1, 2\nreturn one",
    "stores by a loop": "for self._kept in (1, 2):\n    pass\nreturn 1",
    "adds to an attribute": "self._kept += 1\nreturn self._kept",
    "stores an item": "self._rows[0] = 1\nreturn 1",
    "takes away an item": "del self._rows[0]\nreturn 1",
    "takes away an attribute": "del self._kept\nreturn 1",
    "appends to a held list": "self._rows.append(1)\nreturn 1",
    "gives a held list another name": "rows = self._rows\nrows.append(1)\nreturn rows",
    "binds a name to a held list, too": "rows = []\nrows = self._rows\nrows.append(1)\nreturn rows",
    "binds two names at once": "rows, others = [], []\nrows.append(1)\nreturn rows",
    "goes over held lists": "for row in self._rows:\n    row.append(1)\nreturn 1",
    "changes what its list holds": "rows = [self._rows]\nrows[0].append(1)\nreturn rows",
    "calls a method that stores": "return self._keep()",
    "calls a method that changes a list": "rows = []\nself._fill(rows)\nreturn rows",
    "calls a function that changes a list": "return fill(self._rows)",
    "calls a function of another file": "return far(self._rows)",
    "hands on a function": "return sorted(self._rows, key=fill)",
    "calls what it holds": "return self._call()",
    "calls an item": "return self._rows[0]()",
    "calls a function that calls what it is passed": "return told(len)",
    "changes a new object that is handed on": "box = Box([])\nself.same(box)\nbox._kept = 1\nreturn box",
    "changes no new object": "box = self._other\nbox._kept = 1\nreturn box",
    "goes over a generator that changes a list": "return [row for row in each(self._rows)]",
    "makes an object that changes a list": "return Mark(self._rows)",
    "runs a block": "with self._other as box:\n    return box",
    "pushes onto a held list": "heappush(self._rows, 1)\nreturn 1",
}
RIGHT = {
    "reads": "return self._rows[0], self.same(1), self._other.quiet",
    "makes a list": "rows = []\nrows.append(1)\nrows[0] = 2\ndel rows[0]\nreturn rows",
    "copies": "rows = list(self._rows)\nrows.append(1)\nreturn rows",
    "copies in other ways": "rows = self._rows[1:]\nrows.pop()\nnames = {**self._rows}\nnames[0] = 1\nreturn rows",
    "adds lists": "rows = self._rows + [1]\nrows.append(2)\nrows = rows + [3]\nreturn rows",
    "pushes onto a new list": "rows = []\nheappush(rows, 1)\nreturn rows",
    "makes an object": "return Box(list(self._rows))",
    "changes a new object": "box = Box([])\nbox._kept = 1\nreturn box",
    "calls a function that makes a dict": "return counted(self._rows)",
    "asks for a class": "return isinstance(self._other, Mark)",
}
BOX = '''
from heapq import heappush
from far import far

def fill(rows):
    rows.append(1)
    return rows

def told(call):
    return call(())

def counted(rows):
    many = {}
    for row in rows:
        many[row] = many.get(row, 0) + 1
    return many

def each(rows):
    own = list(rows)
    while own:
        yield own.pop()

class Mark:
    def __init__(self, rows):
        self._rows = rows
        rows.append(1)

class Box:
    def __init__(self, rows):
        self._rows = rows
        self._other = None
        self._kept = None
        self._call = len

    def _keep(self):
        self._kept = 1
        return 1

    def _fill(self, rows):
        rows.append(1)

    def same(self, value):
        return value

    @property
    def quiet(self):
        return 1
'''
FAR = "from farther import farther\n\ndef far(rows):\n    return farther(rows)\n"
FARTHER = "def farther(rows):\n    rows.append(1)\n    return rows\n"


def indented(text):
    return "\n".join(["    " + row for row in text.split("\n")]) + "\n"


def box_trees(head, body):
    """The trees of a package in which the class Box has a method with this head and this body, too."""
    text = BOX + indented(head + "\n" + indented(body))
    return {"box": ast.parse(text), "far": ast.parse(FAR), "farther": ast.parse(FARTHER)}


def found_in(trees):
    """The names of the properties and operators in which something is found."""
    return {row[0] for row in Package(trees).faults()}


def child(node, name):
    """The class or the function of this name in a module or a class."""
    return [one for one in node.body if getattr(one, "name", None) == name][0]


class Found(unittest.TestCase):
    def test_what_may_not_stand_there(self):
        for name in ("__len__", "__add__", "__eq__", "__str__", "__contains__", "__lt__", "__iter__"):
            for kind, body in WRONG.items():
                self.assertEqual(found_in(box_trees(f"def {name}(self):", body)), {f"Box.{name}"}, (name, kind))
        for kind, body in WRONG.items():
            self.assertEqual(found_in(box_trees("@property\ndef worth(self):", body)), {"Box.worth"}, kind)

    def test_what_may_stand_there(self):
        for kind, body in RIGHT.items():
            self.assertEqual(Package(box_trees("@property\ndef worth(self):", body)).faults(), [], kind)
            self.assertEqual(Package(box_trees("def __add__(self, other):", body)).faults(), [], kind)

    def test_what_may_change(self):
        for head in ("def worth(self):", "def __iadd__(self, other):", "def __enter__(self):",
                     "@quiet.setter\ndef quiet(self, value):"):
            for kind, body in WRONG.items():
                self.assertEqual(Package(box_trees(head, body)).faults(), [], (head, kind))

    def test_the_place_is_told(self):
        rows = Package(box_trees("@property\ndef worth(self):", WRONG["calls a function of another file"])).faults()
        self.assertEqual(rows, [("Box.worth", "farther", 2, "rows.append(1)")])

    def test_a_property_that_reads_one_that_stores(self):
        trees = box_trees("@property\ndef worth(self):", "return self._other.kept")
        trees["shelf"] = ast.parse("class Shelf:\n" + indented("@property\ndef kept(self):\n    self._kept = 1\n"))
        self.assertEqual(found_in(trees), {"Box.worth", "Shelf.kept"})

    def test_each_property_of_the_package_would_be_found(self):
        trees = trees_by_module()
        names = set()
        for tree in trees.values():
            for cls in [node for node in tree.body if isinstance(node, ast.ClassDef)]:
                for node in [node for node in cls.body if is_property(node)]:
                    names.add(f"{cls.name}.{node.name}")
                    node.body = ast.parse("self._kept = None").body + node.body
        self.assertEqual({row[0] for row in Package(trees).faults() if row[0] == row[1]}, names)
        self.assertLessEqual({"Board.least", "Board.registers", "Desk.least", "Desk.registers", "Spans.pieces"}, names)

    def test_a_board_that_keeps_answers_would_be_found(self):
        trees = trees_by_module()
        least = child(child(trees["overrounds.live.boards"], "Board"), "least")
        least.body = ast.parse("if self._kept_least is None:\n"
                               "    self._kept_least = least_interval(self._loop, self._machine)\n"
                               "return self._kept_least").body
        rows = Package(trees).faults()
        self.assertEqual([(row[0], row[1], row[3]) for row in rows],
                         [("Board.least", "Board.least", "self._kept_least"),
                          ("Desk.least", "Board.least", "self._kept_least")])


def held_by(value, found):
    """All that a value holds, through objects of the package, too."""
    if isinstance(value, (list, tuple)):
        found.append((type(value).__name__, len(value)))
        for one in value:
            held_by(one, found)
    elif isinstance(value, dict):
        held_by(list(value.items()), found)
    elif type(value).__module__.startswith("overrounds."):
        held_by((type(value).__name__, vars(value)), found)
    else:
        found.append(value)
    return found


def some_objects():
    """An object of each class, before anything of it is read."""
    desk = Desk(MEET, P)
    desk.take(3, {"u": 0, "v": 1})
    desk.pin(("interval", 3))
    spans = Spans(3, {"a": (0, 3), "b": (1, 7), "c": (2, 5)})
    return [Operation("a"), Loop(*SUM.operations), Machine(p=1), Plan(SUM, BOTH, 2, GOOD), spans,
            Wiring(spans, {name: (name, 0) for name in spans}), kernel_of(SUM, 2, GOOD, 2, {"item": 0, "sum": 1}),
            Desk(MEET, P), desk]


class InUse(unittest.TestCase):
    def test_properties_store_nothing(self):
        for one in some_objects():
            before = held_by(one, [])
            names = [name for name, value in vars(type(one)).items() if isinstance(value, property)]
            told = [held_by(getattr(one, name), []) for name in names]
            self.assertEqual(held_by(one, []), before, type(one))
            self.assertEqual([held_by(getattr(one, name), []) for name in names], told)

    def test_operators_store_nothing(self):
        calls = [str, lambda one: one == one, lambda one: None in one, lambda one: one + one, lambda one: one + 1,
                 lambda one: one & one, lambda one: one & ("a",), lambda one: one | one, len, list,
                 lambda one: one["u"]]
        for one in some_objects():
            before = held_by(one, [])
            for call in calls:
                try:
                    call(one)
                except (TypeError, ValueError, KeyError):
                    # Not each class has each operator, and not each one takes these values.
                    continue
                finally:
                    self.assertEqual(held_by(one, []), before, type(one))


if __name__ == "__main__":
    unittest.main()
