"""Machines: a few units, each of them there once or several times."""

from overrounds.base.numbers import is_between, is_name
from overrounds.errors import InvalidMachine, UnknownName

MAX_UNITS = 3
MAX_SAME = 3


def _checked(units):
    """An ascending copy of the units; InvalidMachine if they make no machine."""
    if not isinstance(units, dict) or len(units) > MAX_UNITS:
        raise InvalidMachine(units)
    if not all([is_name(name) and is_between(many, 1, MAX_SAME) for name, many in units.items()]):
        raise InvalidMachine(units)
    return {name: units[name] for name in sorted(units)}


def _told(units):
    """The units as a part of the text of a machine."""
    return ", ".join([f"{name} {many}" for name, many in units.items()])


class Machine:
    """A machine of up to three units, each one to three times. It never changes."""

    def __init__(self, **units):
        self._units = _checked(units)

    @classmethod
    def of(cls, units):
        """The machine of a dict of units."""
        # A unit can be called self, so the units are not passed as keywords.
        machine = cls()
        machine._units = _checked(units)
        return machine

    @property
    def units(self):
        """A dict from the units to how often they are there."""
        return dict(self._units)

    def __getitem__(self, name):
        if name not in list(self._units):
            raise UnknownName(name)
        return self._units[name]

    def __contains__(self, value):
        return value in list(self._units)

    def __len__(self):
        return len(self._units)

    def __iter__(self):
        return iter(self._units)

    def __eq__(self, other):
        return isinstance(other, Machine) and self._units == other._units

    def __str__(self):
        if not self._units:
            return "machine without units"
        return f"machine with {_told(self._units)}"

    def __add__(self, other):
        if not isinstance(other, Machine):
            raise InvalidMachine(other)
        units = dict(self._units)
        for name, many in other._units.items():
            units[name] = units.get(name, 0) + many
        machine = Machine()
        machine._units = _checked(units)
        return machine

    def is_below(self, value):
        """Whether the value is a machine that has each unit of this one at least as often."""
        if not isinstance(value, Machine):
            return False
        return all([many <= value._units.get(name, 0) for name, many in self._units.items()])


def check_machine(value):
    """Raise InvalidMachine unless the value is a machine."""
    if not isinstance(value, Machine):
        raise InvalidMachine(value)
