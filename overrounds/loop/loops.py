"""Operations and loops."""

from overrounds.base.numbers import MAX_TICKS, check_between, is_between, is_name
from overrounds.errors import InvalidArgument, InvalidLoop, InvalidOperation, UnknownName
from overrounds.loop.rows import ascends, each_ring, first_items, is_ring, is_row_of_pairs, order_of_round

MAX_OPERATIONS = 8
MAX_DISTANCE = 3
MAX_ROUNDS = 64
MAX_READS = 3
MAX_USES = 4
MAX_OFFSET = 3
MAX_ORDERS = 8
MAX_DELAY = 4


def _told(word, pairs):
    """The pairs as a part of the text of an operation, nothing if there are none."""
    if not pairs:
        return ""
    told = ", ".join([f"{name} {number}" for name, number in pairs])
    return f" {word} {told}"


class Operation:
    """An operation of a loop. It never changes."""

    def __init__(self, name, *, ticks=1, reads=(), uses=()):
        if not is_name(name):
            raise InvalidOperation(name)
        if not is_between(ticks, 1, MAX_TICKS):
            raise InvalidOperation(ticks)
        if not is_row_of_pairs(reads, MAX_READS, MAX_DISTANCE):
            raise InvalidOperation(reads)
        if not is_row_of_pairs(uses, MAX_USES, MAX_OFFSET) or not ascends(uses):
            raise InvalidOperation(uses)
        self._name = name
        self._ticks = ticks
        self._reads = reads
        self._uses = uses

    @property
    def name(self):
        return self._name

    @property
    def ticks(self):
        return self._ticks

    @property
    def reads(self):
        return self._reads

    @property
    def uses(self):
        return self._uses

    @property
    def read_names(self):
        """The ascending tuple of the names that it reads."""
        return first_items(self._reads)

    @property
    def units(self):
        """The ascending tuple of the units that it uses."""
        return first_items(self._uses)

    def renamed(self, names):
        """The operation with other names for itself and for what it reads."""
        if not isinstance(names, dict):
            raise InvalidArgument(names)
        if not all([is_name(old) and is_name(new) for old, new in names.items()]):
            raise InvalidArgument(names)
        if self._name not in names or not all([name in names for name, _ in self._reads]):
            raise InvalidArgument(names)
        reads = tuple([(names[name], distance) for name, distance in self._reads])
        return Operation(names[self._name], ticks=self._ticks, reads=reads, uses=self._uses)

    def with_ticks(self, ticks):
        """The operation with other ticks."""
        return Operation(self._name, ticks=ticks, reads=self._reads, uses=self._uses)

    def __eq__(self, other):
        return (isinstance(other, Operation) and self._name == other._name and self._ticks == other._ticks
                and self._reads == other._reads and self._uses == other._uses)

    def __str__(self):
        return "".join([f"{self._name} {self._ticks}", _told("reads", self._reads), _told("uses", self._uses)])


def _table_of(operations):
    """The operations by name, ascending; InvalidLoop if they make no loop."""
    if not 1 <= len(operations) <= MAX_OPERATIONS:
        raise InvalidLoop(operations)
    table = {}
    for one in operations:
        if not isinstance(one, Operation) or one.name in table:
            raise InvalidLoop(one)
        table[one.name] = one
    for one in operations:
        if not all([name in table for name in one.read_names]):
            raise InvalidLoop(one)
    return {name: table[name] for name in sorted(table)}


def _readings_of(operations):
    """The ascending tuple of all (name, reader, distance), each once."""
    return tuple(sorted({(name, one.name, distance) for one in operations for name, distance in one.reads}))


def _arcs_of(table, orders):
    """The arcs of the operations of a table and of these orders, ascending, each once."""
    reads = [(name, reader, table[name].ticks, distance) for reader in table for name, distance in table[reader].reads]
    return tuple(sorted(set([*reads, *orders])))


def is_order(names, value):
    """Whether the value is an order between operations with these names."""
    if not isinstance(value, tuple) or len(value) != 4:
        return False
    source, target, delay, distance = value
    if source not in names or target not in names:
        return False
    return is_between(delay, 0, MAX_DELAY) and is_between(distance, 0, MAX_DISTANCE)


def _check_orders(names, orders):
    """Raise InvalidLoop unless they are an ascending tuple of at most eight orders."""
    if not isinstance(orders, tuple) or len(orders) > MAX_ORDERS:
        raise InvalidLoop(orders)
    if not all([is_order(names, order) for order in orders]) or not ascends(orders):
        raise InvalidLoop(orders)


class Loop:
    """A loop of one to eight operations. It never changes."""

    def __init__(self, *operations, orders=()):
        self._table = _table_of(operations)
        self._names = tuple(self._table)
        _check_orders(self._names, orders)
        self._take_orders(orders)
        if order_of_round(self._names, self._arcs) is None:
            raise InvalidLoop(orders)
        self._operations = tuple(self._table.values())
        self._readings = _readings_of(self._operations)
        self._units = first_items([pair for one in self._operations for pair in one.uses])
        self._asking = tuple([one.name for one in self._operations if one.uses])

    def _take_orders(self, orders):
        self._orders = orders
        self._arcs = _arcs_of(self._table, orders)

    @classmethod
    def of(cls, operations, *, orders=()):
        """The loop of a tuple of operations."""
        if not isinstance(operations, tuple):
            raise InvalidLoop(operations)
        return cls(*operations, orders=orders)

    @property
    def operations(self):
        """The operations, ascending by name."""
        return self._operations

    @property
    def orders(self):
        return self._orders

    @property
    def names(self):
        """The names of the operations, ascending."""
        return self._names

    @property
    def arcs(self):
        """The orders and the arcs of all that is read, ascending, each once."""
        return self._arcs

    @property
    def readings(self):
        """All (name, reader, distance), ascending, each once."""
        return self._readings

    @property
    def units(self):
        """All units that are used, ascending."""
        return self._units

    @property
    def asking(self):
        """The names of the operations that use units, ascending."""
        return self._asking

    def __getitem__(self, name):
        if name not in self._names:
            raise UnknownName(name)
        return self._table[name]

    def __contains__(self, value):
        return value in self._names

    def __len__(self):
        return len(self._names)

    def __iter__(self):
        return iter(self._names)

    def __eq__(self, other):
        return (isinstance(other, Loop) and self._operations == other._operations
                and self._orders == other._orders)

    def __str__(self):
        return f"loop of {len(self._names)} operations, {len(self._arcs)} arcs"

    def rings(self):
        """All rings as tuples of indices of arcs, ascending."""
        yield from each_ring(self._arcs)

    def ring_sum(self, ring):
        """The pair of the sums of the delays and of the distances of a ring."""
        if not is_ring(self._arcs, ring):
            raise InvalidArgument(ring)
        return sum([self._arcs[index][2] for index in ring]), sum([self._arcs[index][3] for index in ring])

    def renamed(self, names):
        """The loop with other names."""
        if not self._is_renaming(names):
            raise InvalidArgument(names)
        operations = [one.renamed(names) for one in self._operations]
        orders = [(names[source], names[target], delay, distance) for source, target, delay, distance in self._orders]
        return wide_loop(operations, tuple(sorted(orders)))

    def _is_renaming(self, value):
        """Whether the value is a dict from just all names to different names."""
        if not isinstance(value, dict) or len(value) != len(self._names):
            return False
        if not all([name in value and is_name(value[name]) for name in self._names]):
            return False
        return len({value[name] for name in self._names}) == len(self._names)

    def played(self, rounds, meaning):
        """A dict from all names to the tuples of their values in the rounds below `rounds`."""
        check_between(rounds, 0, MAX_ROUNDS)
        # In this order no operation reads a value of its round that is not yet there.
        order = order_of_round(self._names, self._arcs)
        made = {name: [] for name in self._names}
        for turn in range(rounds):
            for name in order:
                read = [made[source][turn - back] if back <= turn else meaning(source, turn - back, ())
                        for source, back in self._table[name].reads]
                made[name].append(meaning(name, turn, tuple(read)))
        return {name: tuple(made[name]) for name in self._names}


def wide_loop(operations, orders):
    """The loop of these operations and orders, however many orders there are.

    Only the package itself calls it, with orders that come from those of a
    loop: besides their number they are right, so nothing is checked again.
    """
    loop = Loop(*operations)
    loop._take_orders(orders)
    return loop


def check_loop(value):
    """Raise InvalidLoop unless the value is a loop."""
    if not isinstance(value, Loop):
        raise InvalidLoop(value)
