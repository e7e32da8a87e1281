"""overrounds.base.numbers: names, integers, slots."""

import unittest

from overrounds.base import numbers
from overrounds.base.numbers import common_multiple, is_integer, is_name, rounded_up, slot_of, times_alive
from overrounds.errors import InvalidNumber, TooMany

from samples import all_kinds

NO_INTEGERS = [value for value in all_kinds() if isinstance(value, bool) or not isinstance(value, int)]
NO_INTEGERS += [10 ** 12, -10 ** 12, 10 ** 39, -10 ** 39]
NO_INTERVALS = NO_INTEGERS + [0, 33, -1, 10 ** 11]


class Checked(unittest.TestCase):
    def assert_number(self, wrong, call, *arguments):
        with self.assertRaises(InvalidNumber) as caught:
            call(*arguments)
        self.assertIs(caught.exception.value, wrong)


class Kinds(unittest.TestCase):
    def test_constants(self):
        self.assertEqual((numbers.MAX_INTERVAL, numbers.MAX_TICKS), (32, 4))

    def test_is_name(self):
        for name in ("a", "z", "sum", "self", "abcdefgh", "zzzzzzzz"):
            self.assertIs(is_name(name), True, name)
        for value in ("", "abcdefghi", "A", "aA", "a1", "1", "a\n", "\n", "\na", " ", "a b", "a_b", "`", "{", "\u00e4"):
            self.assertIs(is_name(value), False, value)
        for value in all_kinds() + [1, 0, b"a"]:
            self.assertIs(is_name(value), False, value)

    def test_is_integer(self):
        for number in (0, 1, -1, 10, 999999999999, -999999999999, 10 ** 11):
            self.assertIs(is_integer(number), True, number)
        for value in NO_INTEGERS + ["1", (1,), [1], {1: 1}, 10 ** 12 + 1, -10 ** 12 - 1, 1.0]:
            self.assertIs(is_integer(value), False, value)


class Slots(Checked):
    def test_example(self):
        self.assertEqual(
            [slot_of(-3, 4), rounded_up(-1, 6, 4), rounded_up(3, 0, 3), times_alive(2, 9, 0, 3),
             times_alive(4, 4, 0, 1), common_multiple(2, 3, 4), common_multiple()],
            [1, 2, 3, 2, 0, 12, 1])

    def test_slot_of(self):
        self.assertEqual([slot_of(tick, 3) for tick in range(-4, 5)], [2, 0, 1, 2, 0, 1, 2, 0, 1])
        self.assertEqual([slot_of(tick, 1) for tick in (-2, 0, 7)], [0, 0, 0])
        self.assertEqual([slot_of(tick, 32) for tick in (-1, 0, 31, 32, -32, -33)], [31, 0, 31, 0, 0, 31])
        self.assertEqual(slot_of(-999999999999, 10), 1)

    def test_slot_of_wrong(self):
        for wrong in NO_INTEGERS:
            self.assert_number(wrong, slot_of, wrong, 0)
        for wrong in NO_INTERVALS:
            self.assert_number(wrong, slot_of, 0, wrong)

    def test_rounded_up(self):
        for interval in (1, 2, 3, 7, 32):
            for number in range(-9, 10):
                for slot in (-40, -7, -1, 0, 1, 2, 6, 31, 32, 100):
                    wanted = next(k for k in range(number, number + interval) if (k - slot) % interval == 0)
                    self.assertEqual(rounded_up(number, slot, interval), wanted)

    def test_rounded_up_wrong(self):
        for wrong in NO_INTEGERS:
            self.assert_number(wrong, rounded_up, wrong, "a", 0)
            self.assert_number(wrong, rounded_up, 0, wrong, 0)
        for wrong in NO_INTERVALS:
            self.assert_number(wrong, rounded_up, 0, 0, wrong)

    def test_times_alive(self):
        for interval in (1, 2, 3, 5, 32):
            for begin in range(-6, 7):
                for end in range(begin, begin + 12):
                    for tick in (-35, -5, -1, 0, 1, 4, 33):
                        wanted = sum(begin <= tick + interval * i < end for i in range(-60, 61))
                        self.assertEqual(times_alive(begin, end, tick, interval), wanted)

    def test_times_alive_wrong(self):
        for wrong in NO_INTEGERS:
            self.assert_number(wrong, times_alive, wrong, "a", "b", 0)
            self.assert_number(wrong, times_alive, 0, wrong, "b", 0)
            self.assert_number(wrong, times_alive, 0, 0, wrong, 0)
        for wrong in NO_INTERVALS:
            self.assert_number(wrong, times_alive, 0, 5, 0, wrong)
        below = 3
        self.assert_number(below, times_alive, 4, below, "b", 0)
        self.assert_number(-5, times_alive, -4, -5, 0, 1)


class Multiples(Checked):
    def test_common_multiple(self):
        self.assertEqual(common_multiple(), 1)
        self.assertEqual([common_multiple(number) for number in (1, 2, 63, 64)], [1, 2, 63, 64])
        self.assertEqual(common_multiple(4, 6), 12)
        self.assertEqual(common_multiple(6, 4, 10, 1, 1), 60)
        self.assertEqual(common_multiple(*range(1, 17)), 720720)
        self.assertEqual(common_multiple(*[64] * 16), 64)
        primes = (2, 3, 5, 7, 11, 13, 17, 19, 23, 29, 31, 37, 41, 43, 47, 53)
        product = 1
        for prime in primes:
            product *= prime
        self.assertEqual(common_multiple(*primes), product)

    def test_too_many(self):
        for many in (17, 18, 40):
            with self.assertRaises(TooMany) as caught:
                common_multiple(*[1] * many)
            self.assertEqual(caught.exception.limit, 16)

    def test_wrong_number(self):
        for wrong in NO_INTEGERS + [0, 65, -1, 10 ** 11]:
            self.assert_number(wrong, common_multiple, wrong)
            self.assert_number(wrong, common_multiple, 1, 64, wrong, "a")

    def test_a_wrong_number_comes_ahead_of_one_too_many(self):
        for wrong in (0, 65, True, None):
            self.assert_number(wrong, common_multiple, *[1] * 16, wrong)
            self.assert_number(wrong, common_multiple, wrong, *[1] * 20)


if __name__ == "__main__":
    unittest.main()
