"""overrounds.loop.loops: playing a loop."""

import unittest

from overrounds.errors import InvalidLoop, InvalidNumber
from overrounds.loop.loops import Loop, Operation

from samples import MEET, SUM, all_kinds, slow_value, some_parts


def whole(name, turn, values):
    """Tells all that the meaning was called with."""
    return (name, turn, values)


class Played(unittest.TestCase):
    def test_example(self):
        def meaning(name, turn, values):
            return sum(values) if name == "sum" and turn >= 0 else 10 + turn
        self.assertEqual(SUM.played(2, meaning), {"item": (10, 11), "sum": (19, 30)})

    def test_no_round(self):
        self.assertEqual(SUM.played(0, whole), {"item": (), "sum": ()})

    def test_one_round(self):
        self.assertEqual(
            MEET.played(1, whole),
            {"u": (("u", 0, (("v", -1, ()),)),), "v": (("v", 0, (("u", 0, (("v", -1, ()),)),)),)})

    def test_64_rounds(self):
        loop = Loop(Operation("a", reads=(("a", 1),)))
        values = loop.played(64, lambda name, turn, read: read[0] + turn if turn >= 0 else 0)
        self.assertEqual(values, {"a": tuple(turn * (turn + 1) // 2 for turn in range(64))})

    def test_wrong_rounds(self):
        def never(name, turn, values):
            raise AssertionError
        for wrong in all_kinds() + [65, -1, "1", (1,), 10 ** 11]:
            with self.assertRaises(InvalidNumber, msg=wrong) as caught:
                SUM.played(wrong, never)
            self.assertIs(caught.exception.value, wrong)

    def test_keys_are_ascending(self):
        loop = Loop(Operation("a", reads=(("b", 0),)), Operation("b", reads=(("c", 0),)), Operation("c"))
        self.assertEqual(list(loop.played(1, whole)), ["a", "b", "c"])
        self.assertEqual(list(Loop(Operation("z"), Operation("b"), Operation("m")).played(0, whole)), ["b", "m", "z"])

    def test_first_values_of_all_distances(self):
        loop = Loop(Operation("a", reads=(("b", 3), ("b", 2), ("b", 1))), Operation("b"))
        values = loop.played(5, lambda name, turn, read: read if name == "a" else 100 + turn)
        self.assertEqual(values["a"], ((97, 98, 99), (98, 99, 100), (99, 100, 101), (100, 101, 102), (101, 102, 103)))

    def test_first_values_are_called_with_no_values(self):
        calls = []

        def meaning(name, turn, values):
            calls.append((name, turn, values))
            return name
        Loop(Operation("a", reads=(("b", 3), ("a", 1))), Operation("b", reads=(("a", 0),))).played(4, meaning)
        below = {call for call in calls if call[1] < 0}
        self.assertEqual(below, {("b", -3, ()), ("b", -2, ()), ("b", -1, ()), ("a", -1, ())})
        others = {call for call in calls if call[1] >= 0 and call[0] == "b"}
        self.assertEqual(others, {("b", turn, ("a",)) for turn in range(4)})

    def test_the_order_of_the_operands(self):
        loop = Loop(Operation("z", reads=(("b", 0), ("a", 0), ("b", 0))), Operation("a"), Operation("b"))
        self.assertEqual(loop.played(1, lambda name, turn, read: read or name)["z"], (("b", "a", "b"),))

    def test_two_readings_of_one_value(self):
        loop = Loop(Operation("a", reads=(("a", 1), ("a", 1))))
        self.assertEqual(loop.played(4, lambda name, turn, read: sum(read) if read else 1), {"a": (2, 4, 8, 16)})

    def test_one_value_in_two_distances(self):
        loop = Loop(Operation("f", reads=(("f", 1), ("f", 2))))
        self.assertEqual(loop.played(6, lambda name, turn, read: sum(read) if read else 1)["f"], (2, 3, 5, 8, 13, 21))

    def test_a_meaning_that_hangs_on_name_and_round(self):
        loop = Loop(Operation("b", reads=(("a", 0),)), Operation("a", reads=(("b", 1),)))
        values = loop.played(3, lambda name, turn, read: f"{name}{turn}" + "".join(read))
        self.assertEqual(values, {"a": ("a0b-1", "a1b0a0b-1", "a2b1a1b0a0b-1"),
                                  "b": ("b0a0b-1", "b1a1b0a0b-1", "b2a2b1a1b0a0b-1")})

    def test_meaning_takes_its_arguments_by_position(self):
        self.assertEqual(Loop(Operation("a")).played(1, lambda *told: told), {"a": (("a", 0, ()),)})

    def test_a_dict_can_be_the_value(self):
        loop = Loop(Operation("a", reads=(("a", 1),)))
        values = loop.played(2, lambda name, turn, read: {"turn": turn, "read": list(read)})
        self.assertEqual(values["a"][0], {"turn": 0, "read": [{"turn": -1, "read": []}]})

    def test_orders_change_no_value(self):
        plain = Loop(Operation("a"), Operation("b", reads=(("a", 1),)))
        ordered = Loop(Operation("a"), Operation("b", reads=(("a", 1),)), orders=(("b", "a", 2, 0),))
        self.assertEqual(plain.played(3, whole), ordered.played(3, whole))

    def test_many_loops(self):
        for seed in range(300):
            operations, orders = some_parts(seed)
            try:
                loop = Loop(*operations, orders=orders)
            except InvalidLoop:
                continue

            def meaning(name, turn, values):
                return (sum((k + 2) * value for k, value in enumerate(values)) + 7 * turn + ord(name)) % 1009
            wanted = {name: tuple(slow_value(loop, meaning, name, turn) for turn in range(3)) for name in loop.names}
            self.assertEqual(loop.played(3, meaning), wanted)


if __name__ == "__main__":
    unittest.main()
