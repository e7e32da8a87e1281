"""All examples of the document, value by value."""

import unittest
from pathlib import Path

import overrounds.base.numbers
import overrounds.change.changes
import overrounds.code.checks
import overrounds.code.kernels
import overrounds.errors
import overrounds.file.spans
import overrounds.file.still
import overrounds.file.turning
import overrounds.file.wirings
import overrounds.flow.sums
import overrounds.live.desk
import overrounds.loop.loops
import overrounds.plan.machines
import overrounds.plan.plans
import overrounds.rings.ratios
import overrounds.rings.starts
import overrounds.text.formats
import overrounds.units.least
import overrounds.units.trees

EXAMPLES = Path(__file__).resolve().parent / "examples.txt"
DOCUMENT = Path(__file__).resolve().parent.parent.parent / "shared" / "DOC.md"


def public_names():
    """All names of all modules of the interface."""
    names = {}
    for parent in vars(overrounds).values():
        if getattr(parent, "__name__", "").startswith("overrounds"):
            for module in [parent, *vars(parent).values()]:
                if getattr(module, "__name__", "").startswith("overrounds"):
                    names.update({name: value for name, value in vars(module).items() if not name.startswith("_")})
    return names


def sections(lines):
    """The headings, each with its examples as pairs of the line to run and the lines that it gives."""
    found = []
    for line in lines:
        if line.startswith("## "):
            found.append((line, []))
        elif line.startswith(">>> "):
            found[-1][1].append((line[4:], []))
        elif line.strip():
            found[-1][1][-1][1].append(line)
    return found


def lines_of_document():
    """The headings and the lines of the examples of the document."""
    lines, within = [], False
    for line in DOCUMENT.read_text("ascii").split("\n"):
        if line == "```":
            within = not within
        elif within or line.startswith("## "):
            lines.append(line)
    return lines


class Examples(unittest.TestCase):
    def test_each(self):
        told = sections(EXAMPLES.read_text("ascii").split("\n"))
        names = public_names()
        self.assertEqual(told[0][0], "## Examples")
        common = {}
        for line, gives in told[0][1]:
            self.assertEqual(gives, [])
            exec(line, names, common)
        many = 0
        for heading, examples in told[1:]:
            space = {**names, **common}
            for line, gives in examples:
                with self.subTest(heading=heading, line=line):
                    self.run_one(space, line, gives)
                    many += 1
        self.assertEqual(many, 62)

    def run_one(self, space, line, gives):
        if gives and gives[0].startswith("raises "):
            with self.assertRaises(Exception) as caught:
                exec(line, space)
            wanted = eval(gives[0][7:], space)
            self.assertIs(type(caught.exception), type(wanted))
            self.assertEqual(vars(caught.exception), vars(wanted))
        elif gives:
            self.assertEqual(repr(eval(line, space)), "\n".join(gives))
        else:
            exec(line, space)

    @unittest.skipUnless(DOCUMENT.is_file(), "the document is not there")
    def test_they_are_those_of_the_document(self):
        theirs = [row for row in sections(lines_of_document()) if row[1]]
        self.assertEqual(sections(EXAMPLES.read_text("ascii").split("\n")), theirs)


if __name__ == "__main__":
    unittest.main()
