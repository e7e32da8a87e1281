"""Whether a kernel does what the plain loop does."""

from overrounds.base.numbers import is_between, is_integer
from overrounds.code.kernels import Kernel, check_run
from overrounds.code.runs import Run
from overrounds.errors import InvalidKernel


def _check_kernel(kernel):
    if not isinstance(kernel, Kernel):
        raise InvalidKernel(kernel)


def _check_both(kernel, rounds):
    _check_kernel(kernel)
    check_run(rounds)


def wrong_reading(kernel, rounds):
    """The first wrong reading (tick, name, round, index, what it finds) of a run, or None."""
    _check_both(kernel, rounds)
    run = Run(kernel, rounds)
    for tick, name, turn in kernel.timeline(rounds):
        for index, (source, distance) in enumerate(kernel.loop[name].reads):
            value = run.found(name, index, turn)
            if value != (source, turn - distance):
                return (tick, name, turn, index, value)
    return None


def is_wrong_reading(kernel, rounds, value):
    """Whether the value is any wrong reading of a run."""
    _check_both(kernel, rounds)
    if not isinstance(value, tuple) or len(value) != 5:
        return False
    tick, name, turn, index, told = value
    if name not in kernel.loop.names or not is_integer(tick) or not is_between(turn, 0, rounds - 1):
        return False
    reads = kernel.loop[name].reads
    if not is_between(index, 0, len(reads) - 1) or tick != kernel.starts[name] + kernel.interval * turn:
        return False
    found = Run(kernel, rounds).found(name, index, turn)
    # True in the place of 1 would be equal.
    if told != found or (found is not None and not is_integer(told[1])):
        return False
    source, distance = reads[index]
    return found != (source, turn - distance)


def enough_rounds(kernel):
    """The rounds of a run that has a wrong reading, if any run has one."""
    _check_kernel(kernel)
    return 2 * kernel.stages + kernel.registers


def long_readings(kernel):
    """A dict from all (name, index of the operand) to what the operand finds in long runs."""
    _check_kernel(kernel)
    run = Run(kernel, enough_rounds(kernel))
    turn = kernel.stages + kernel.registers
    readings = {}
    for one in kernel.loop.operations:
        for index in range(len(one.reads)):
            # From this round on some value is always there.
            name, before = run.found(one.name, index, turn)
            readings[one.name, index] = (name, turn - before)
    return readings


def does_right(kernel):
    """Whether no run has a wrong reading."""
    readings = long_readings(kernel)
    return all([readings[one.name, index] == pair
                for one in kernel.loop.operations for index, pair in enumerate(one.reads)])


def least_wrong(kernel):
    """The least number of rounds of a run with a wrong reading, and the first one of it; or None."""
    if does_right(kernel):
        return None
    # A reading that is wrong is so in each longer run, too.
    fewest, enough = 1, enough_rounds(kernel)
    while fewest < enough:
        middle = (fewest + enough) // 2
        if wrong_reading(kernel, middle) is None:
            fewest = middle + 1
        else:
            enough = middle
    return fewest, wrong_reading(kernel, fewest)
