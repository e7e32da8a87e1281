"""What a property or an operator changes when it runs, through what it calls, too (LANGUAGE.md, L5).

What is called is told by its name alone: `x.name` stands for all methods and
properties of the package with this name. The kept answers that L5 describes
are found like everything else that is stored, as the package does without them.
"""

import ast
import builtins
from pathlib import Path

PACKAGE = Path(__file__).resolve().parent.parent / "overrounds"
# What runs as a statement of its own may change its object.
MAY_CHANGE = ("__init__", "__enter__", "__exit__", "__call__", "__setitem__", "__iadd__", "__isub__")
MAKERS = ("list", "dict", "set", "sorted")
MADE = (ast.List, ast.Dict, ast.Set, ast.ListComp, ast.DictComp, ast.SetComp)
CHANGING = tuple("""append clear extend insert pop popitem remove reverse setdefault update sort add discard appendleft
extendleft popleft rotate""".split())
HEAPS = ("heappush", "heappop", "heapify", "heapreplace", "heappushpop")
PLAIN_METHODS = {name for kind in (str, list, dict, tuple, int, set) for name in dir(kind) if not name.startswith("_")}


def all_files():
    return [path for path in sorted(PACKAGE.rglob("*")) if path.is_file() and "__pycache__" not in path.parts]


def all_trees():
    return [(path, ast.parse(path.read_text("ascii"))) for path in all_files()]


def module_of(path):
    parts = path.relative_to(PACKAGE.parent).with_suffix("").parts
    return ".".join(parts[:-1] if parts[-1] == "__init__" else parts)


def trees_by_module():
    return {module_of(path): tree for path, tree in all_trees()}


def is_property(node):
    return isinstance(node, ast.FunctionDef) and "property" in [ast.unparse(one) for one in node.decorator_list]


def is_made(value):
    """Whether an expression makes a new list, dict or set."""
    if isinstance(value, ast.BinOp):
        return is_made(value.left) or is_made(value.right)
    if isinstance(value, ast.Subscript):
        return isinstance(value.slice, ast.Slice)
    if isinstance(value, ast.Call):
        return ast.unparse(value.func) in MAKERS or isinstance(value.func, ast.Attribute) and value.func.attr == "copy"
    return isinstance(value, MADE)


class Part:
    """A function, method or property of the package."""

    def __init__(self, module, owner, node):
        self.module = module
        self.node = node
        self.owner = owner
        self.short = node.name
        self.name = node.name if owner is None else f"{owner}.{node.name}"
        told = node.args
        self.parameters = [one.arg for one in (*told.posonlyargs, *told.args, *told.kwonlyargs, told.vararg,
                                               told.kwarg) if one is not None]
        self.nodes = [one for row in node.body for one in ast.walk(row)]
        self.yields = any(isinstance(one, (ast.Yield, ast.YieldFrom)) for one in self.nodes)

    def may_change_nothing(self):
        """Whether it is a property, or an operator that does not work in place."""
        return is_property(self.node) or (self.owner is not None and self.short.startswith("__")
                                          and self.short not in MAY_CHANGE)

    def values_of(self, name):
        """All that a local name is bound to, with None for what is no plain assignment of it alone."""
        plain = {id(one.targets[0]): one.value for one in self.nodes
                 if isinstance(one, ast.Assign) and len(one.targets) == 1}
        return [None for one in self.parameters if one == name] + [
            plain.get(id(one)) for one in self.nodes
            if isinstance(one, ast.Name) and one.id == name and not isinstance(one.ctx, ast.Load)]

    def made_itself(self, node):
        """Whether the node is a local name that is bound to nothing but new lists, dicts and sets."""
        if not isinstance(node, ast.Name) or self.yields:
            return False
        values = self.values_of(node.id)
        return values != [] and all(is_made(value) for value in values)

    def is_handed_on(self, name, line):
        """Whether more than attributes of a local name is read up to a line."""
        bases = [id(one.value) for one in self.nodes if isinstance(one, ast.Attribute)]
        return any(isinstance(one, ast.Name) and one.id == name and isinstance(one.ctx, ast.Load)
                   and one.lineno <= line and id(one) not in bases for one in self.nodes)


class Package:
    """A package, given as a dict from the names of its modules to their trees."""

    def __init__(self, trees):
        self.tops = {module: {} for module in trees}
        self.makers = {}
        self.methods = {}
        self.parts = []
        for module, tree in trees.items():
            for node in tree.body:
                if isinstance(node, ast.FunctionDef):
                    self.tops[module][node.name] = Part(module, None, node)
                    self.parts.append(self.tops[module][node.name])
                elif isinstance(node, ast.ImportFrom):
                    self.tops[module].update({one.name: (node.module, one.name) for one in node.names})
                elif isinstance(node, ast.ClassDef):
                    self.makers.setdefault(node.name, [])
                    self.parts.extend(self.take_methods(module, node))

    def take_methods(self, module, node):
        """The methods of a class."""
        parts = [Part(module, node.name, one) for one in node.body if isinstance(one, ast.FunctionDef)]
        for part in parts:
            if part.short == "__init__":
                self.makers[node.name].append(part)
            elif not part.short.startswith("__"):
                self.methods.setdefault(part.short, []).append(part)
        return parts

    def part_of(self, module, name):
        """The function that a name of a module means, or None."""
        told = self.tops.get(module, {}).get(name)
        return self.part_of(*told) if isinstance(told, tuple) else told

    def called(self, part):
        """The parts that a part calls, reads as properties or hands on."""
        found = []
        for one in part.nodes:
            if isinstance(one, ast.Attribute):
                found.extend(self.methods.get(one.attr, []))
            elif isinstance(one, ast.Call) and isinstance(one.func, ast.Name):
                found.extend(self.makers.get(one.func.id, []))
            if isinstance(one, ast.Name) and self.part_of(part.module, one.id) is not None:
                found.append(self.part_of(part.module, one.id))
        return found

    def reached(self, root):
        """All parts that run when a part does, the part first."""
        found = {}
        left = [root]
        while left:
            part = left.pop()
            if part not in found:
                found[part] = True
                left.extend(self.called(part))
        return list(found)

    def is_new(self, part, node):
        """Whether the node is an attribute of an object that the part makes and has not handed on by then."""
        if not isinstance(node.value, ast.Name):
            return False
        name = node.value.id
        if part.short == "__init__" and name == part.parameters[0]:
            return True
        values = part.values_of(name)
        makes = [isinstance(one, ast.Call) and ast.unparse(one.func) in self.makers for one in values]
        return makes != [] and all(makes) and not part.yields and not part.is_handed_on(name, node.lineno)

    def is_known(self, part, called):
        """Whether what is called is not just a value that the part is passed or holds."""
        if isinstance(called, ast.Attribute):
            return called.attr in self.methods or called.attr in PLAIN_METHODS
        if not isinstance(called, ast.Name) or part.values_of(called.id):
            return False
        return called.id in self.tops[part.module] or called.id in self.makers or hasattr(builtins, called.id)

    def is_fault(self, part, node):
        """Whether a node of a part changes what the part did not make, or calls a value."""
        if isinstance(node, (ast.AugAssign, ast.Global, ast.Nonlocal, ast.With)):
            return True
        if isinstance(node, ast.Attribute) and not isinstance(node.ctx, ast.Load):
            return not self.is_new(part, node)
        if isinstance(node, ast.Subscript) and not isinstance(node.ctx, ast.Load):
            return not part.made_itself(node.value)
        if not isinstance(node, ast.Call):
            return False
        if isinstance(node.func, ast.Attribute) and node.func.attr in CHANGING:
            return not part.made_itself(node.func.value)
        if isinstance(node.func, ast.Name) and node.func.id in HEAPS:
            return not part.made_itself(node.args[0])
        return not self.is_known(part, node.func)

    def faults(self):
        """All rows (property or operator, part that it runs, line, what) of what is against the rule."""
        rows = {part: [(part.name, node.lineno, ast.unparse(node)) for node in part.nodes if self.is_fault(part, node)]
                for part in self.parts}
        return [(root.name, *row) for root in self.parts if root.may_change_nothing()
                for part in self.reached(root) for row in rows[part]]
