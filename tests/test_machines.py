"""overrounds.plan.machines: machines."""

import unittest

from overrounds.errors import InvalidMachine, UnknownName
from overrounds.plan import machines
from overrounds.plan.machines import Machine

from samples import BOTH, P, SUM, all_kinds, error_of

WRONG_UNITS = [{"a": 0}, {"a": 4}, {"a": -1}, {"a": True}, {"a": False}, {"a": None}, {"a": "1"}, {"a": (1,)},
               {"a": [1]}, {"a": 10 ** 39}, {"abcdefghi": 1}, {"": 1}, {"A": 1}, {"a1": 1}, {"a_b": 1},
               {"a": 1, "b": 1, "c": 1, "d": 1}, {"a": 1, "b": 4}, {"a": 1, "b": 1, "c": 0}]


class Made(unittest.TestCase):
    def test_constants(self):
        self.assertEqual((machines.MAX_UNITS, machines.MAX_SAME), (3, 3))

    def test_how_many_units(self):
        self.assertEqual(Machine().units, {})
        self.assertEqual(Machine(a=1).units, {"a": 1})
        self.assertEqual(Machine(abcdefgh=2, a=1, z=3).units, {"a": 1, "abcdefgh": 2, "z": 3})

    def test_wrong_units(self):
        for wrong in WRONG_UNITS:
            with self.assertRaises(InvalidMachine, msg=wrong):
                Machine(**wrong)
            with self.assertRaises(InvalidMachine, msg=wrong):
                Machine.of(wrong)

    def test_of(self):
        for units in ({}, {"a": 1}, {"z": 3, "a": 1, "b": 2}):
            self.assertEqual(Machine.of(units), Machine(**units))
            self.assertIs(type(Machine.of(units)), Machine)
        for wrong in all_kinds() + [{1: 1}, {None: 1}, {("a",): 1}, {"a": {}}, {True: 1}, (("a", 1),), "a", ["a"]]:
            if wrong not in ({}, {"a": 1}):
                self.assertIs(error_of(Machine.of, wrong)[0], InvalidMachine, wrong)

    def test_a_unit_called_self(self):
        for name in ("self", "cls", "units"):
            machine = Machine.of({name: 2, "a": 1})
            self.assertEqual((machine.units, machine[name], name in machine), ({"a": 1, name: 2}, 2, True))
        one = Machine.of({"self": 1})
        self.assertEqual(((one + one).units, str(one)), ({"self": 2}, "machine with self 1"))
        self.assertEqual((one == Machine.of({"self": 1}), one.is_below(one + one)), (True, True))


class Told(unittest.TestCase):
    def test_units_are_ascending_and_a_copy(self):
        told = {"z": 1, "a": 2, "m": 3}
        machine = Machine.of(told)
        self.assertEqual(list(machine.units.items()), [("a", 2), ("m", 3), ("z", 1)])
        self.assertEqual(list(told), ["z", "a", "m"])
        told["z"] = 3
        told["b"] = 1
        machine.units["a"] = 9
        machine.units.clear()
        self.assertEqual(machine.units, {"a": 2, "m": 3, "z": 1})
        with self.assertRaises(AttributeError):
            machine.units = {}
        with self.assertRaises(TypeError):
            machine["a"] = 1

    def test_items(self):
        machine = Machine(b=2, a=1)
        self.assertEqual((machine["a"], machine["b"]), (1, 2))
        for wrong in all_kinds() + ["c", "aa", 0, 1, "self"]:
            if wrong == "a":
                continue
            kind, error = error_of(lambda: machine[wrong])
            self.assertIs(kind, UnknownName, wrong)
            self.assertIs(error.wanted, wrong)

    def test_contains(self):
        machine = Machine(b=2, a=1)
        self.assertEqual(("a" in machine, "b" in machine, "c" in machine), (True, True, False))
        for value in all_kinds() + [0, 1, 2, ("a", 1), machine]:
            self.assertIs(value in machine, False)

    def test_length_and_iteration(self):
        self.assertEqual([len(Machine()), len(Machine(a=3)), len(Machine(c=1, b=2, a=3))], [0, 1, 3])
        self.assertEqual([list(Machine()), list(Machine(c=1, b=2, a=3))], [[], ["a", "b", "c"]])
        machine = Machine(b=1, a=1)
        self.assertEqual([list(machine), list(machine)], [["a", "b"]] * 2)

    def test_equal(self):
        self.assertIs(Machine(a=1, b=2) == Machine(b=2, a=1), True)
        self.assertIs(Machine(a=1, b=2) != Machine(b=2, a=1), False)
        self.assertIs(Machine() == Machine(), True)
        for other in [Machine(), Machine(a=1), Machine(a=2, b=2), Machine(a=1, c=2), Machine(a=1, b=2, c=1),
                      {"a": 1, "b": 2}, "machine with a 1, b 2"] + all_kinds():
            self.assertIs(Machine(a=1, b=2) == other, False)
            self.assertIs(Machine(a=1, b=2) != other, True)
            self.assertIs(other == Machine(a=1, b=2), False)

    def test_text(self):
        self.assertEqual(str(Machine(mem=1, add=2)), "machine with add 2, mem 1")
        self.assertEqual(str(P), "machine with p 1")
        self.assertEqual(str(Machine()), "machine without units")


class Together(unittest.TestCase):
    def test_example(self):
        self.assertEqual(str(BOTH + Machine(mem=2)), "machine with add 1, mem 3")

    def test_sums(self):
        self.assertEqual(Machine(a=1) + Machine(a=2), Machine(a=3))
        self.assertEqual(Machine(b=1) + Machine(a=2, c=3), Machine(a=2, b=1, c=3))
        self.assertEqual(Machine() + Machine(a=3), Machine(a=3))
        self.assertEqual(Machine() + Machine(), Machine())
        self.assertEqual(list((Machine(b=1) + Machine(a=2)).units), ["a", "b"])
        one, other = Machine(a=1), Machine(a=1, b=1)
        self.assertEqual((one + other, one, other), (Machine(a=2, b=1), Machine(a=1), Machine(a=1, b=1)))
        self.assertIs(type(one + other), Machine)

    def test_no_such_sum(self):
        for one, other in ((Machine(a=2), Machine(a=2)), (Machine(a=1), Machine(a=3)),
                           (Machine(a=3, b=1), Machine(a=1)),
                           (Machine(a=1, b=1), Machine(c=1, d=1)), (Machine(a=1, b=1, c=1), Machine(d=1))):
            with self.assertRaises(InvalidMachine):
                one + other

    def test_what_is_no_machine(self):
        for wrong in all_kinds() + [{"a": 1}, 1, "a", BOTH.units]:
            if not isinstance(wrong, Machine):
                with self.assertRaises(InvalidMachine):
                    Machine(a=1) + wrong

    def test_is_below(self):
        for one, other, wanted in ((Machine(), Machine(), True), (Machine(), Machine(a=1), True),
                                   (Machine(a=1), Machine(), False), (Machine(a=1), Machine(a=1), True),
                                   (Machine(a=1), Machine(a=3, b=1), True), (Machine(a=2), Machine(a=1, b=3), False),
                                   (Machine(a=1, b=1), Machine(a=3), False),
                                   (Machine(a=1, b=2), Machine(a=2, b=1), False),
                                   (Machine(a=1, b=2), Machine(a=1, b=3, c=1), True)):
            self.assertIs(one.is_below(other), wanted, (str(one), str(other)))
        for value in all_kinds() + [SUM, {"a": 1}, 3]:
            if not isinstance(value, Machine):
                self.assertIs(Machine().is_below(value), False)


if __name__ == "__main__":
    unittest.main()
