"""The errors of the package."""


class RoundError(ValueError):
    """A value is not what the package asks for."""

    def __init__(self, told=None):
        self.told = told


class InvalidOperation(RoundError):
    """There is no such operation."""


class InvalidLoop(RoundError):
    """There is no such loop."""


class InvalidMachine(RoundError):
    """There is no such machine."""


class InvalidSpans(RoundError):
    """There are no such spans."""


class InvalidWiring(RoundError):
    """There is no such wiring."""


class InvalidKernel(RoundError):
    """There is no such kernel."""


class InvalidArgument(RoundError):
    """Some other argument is not as told."""


class ParseError(RoundError):
    """A text cannot be read; `line` is the index of the line, or None."""

    def __init__(self, line):
        RoundError.__init__(self, line)
        self.line = line


class UnknownName(KeyError):
    """Nothing has the name that is `wanted`."""

    def __init__(self, wanted):
        self.wanted = wanted


class InvalidNumber(RuntimeError):
    """The `value` is no integer, or none within its bounds."""

    def __init__(self, value):
        self.value = value


class TooMany(OverflowError):
    """There is more of something than the `limit`."""

    def __init__(self, limit):
        self.limit = limit


class NothingToUndo(IndexError):
    """There are not so `many` calls to take back."""

    def __init__(self, many):
        self.many = many


class Broken(ArithmeticError):
    """A pin does not hold: its `kind`, and the pin itself as the `reason`."""

    def __init__(self, kind, reason):
        self.kind = kind
        self.reason = reason
