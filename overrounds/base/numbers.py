"""Names, integers, and slots of an interval."""

from math import lcm

from overrounds.errors import InvalidNumber, TooMany

MAX_INTERVAL = 32
MAX_TICKS = 4
MAX_LETTERS = 8
MAX_FACTOR = 64
MAX_FACTORS = 16


def is_name(value):
    """Whether the value is a string of one to eight letters a to z."""
    if not isinstance(value, str) or not 1 <= len(value) <= MAX_LETTERS:
        return False
    return all(["a" <= letter <= "z" for letter in value])


def is_integer(value):
    """Whether the value is an integer of at most twelve digits."""
    # In Python True and False are integers, too; here they are none.
    if not isinstance(value, int) or isinstance(value, bool):
        return False
    return -10 ** 12 < value < 10 ** 12


def is_between(value, low, high):
    """Whether the value is an integer from `low` to `high`."""
    return is_integer(value) and low <= value <= high


def check_integer(value):
    """Raise InvalidNumber unless the value is an integer."""
    if not is_integer(value):
        raise InvalidNumber(value)


def check_between(value, low, high):
    """Raise InvalidNumber unless the value is an integer from `low` to `high`."""
    if not is_between(value, low, high):
        raise InvalidNumber(value)


def check_interval(value):
    """Raise InvalidNumber unless the value is an interval."""
    check_between(value, 1, MAX_INTERVAL)


def slot_of(tick, interval):
    """The slot of a tick, from 0 to `interval - 1`."""
    check_integer(tick)
    check_interval(interval)
    return tick % interval


def rounded_up(number, slot, interval):
    """The least integer from `number` on that has the slot of `slot`."""
    check_integer(number)
    check_integer(slot)
    check_interval(interval)
    return number + (slot - number) % interval


def times_alive(begin, end, tick, interval):
    """The number of integers i with begin <= tick + interval * i < end."""
    check_integer(begin)
    check_integer(end)
    if end < begin:
        raise InvalidNumber(end)
    check_integer(tick)
    check_interval(interval)
    # For a bound b, the i with tick + interval * i < b are those below
    # -((tick - b) // interval): the division is rounded up this way.
    return (tick - begin) // interval - (tick - end) // interval


def common_multiple(*numbers):
    """The least integer above 0 that is a multiple of all the numbers."""
    for number in numbers:
        check_between(number, 1, MAX_FACTOR)
    if len(numbers) > MAX_FACTORS:
        raise TooMany(MAX_FACTORS)
    multiple = 1
    for number in numbers:
        multiple = lcm(multiple, number)
    return multiple
