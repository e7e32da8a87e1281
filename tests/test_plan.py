"""overrounds.plan.plans: the class Plan."""

import unittest
from inspect import isgenerator
from random import Random

from overrounds.errors import InvalidArgument, InvalidLoop, InvalidMachine, InvalidNumber, UnknownName
from overrounds.loop.loops import Loop, Operation
from overrounds.plan.machines import Machine
from overrounds.plan.plans import Plan, is_plan, leeway

from samples import BOTH, GOOD, MEET, NO_INTERVALS, NO_STARTS, P, SUM, all_kinds, all_starts, error_of, some_loops

PLAN = Plan(SUM, BOTH, 2, GOOD)
FREE = Loop(Operation("a", ticks=4), Operation("b", uses=(("p", 0),)), Operation("c", uses=(("p", 1),)))


def some_plans(many):
    """Plans of small loops, found by trying starts."""
    draw, found = Random(5), []
    for loop in some_loops(many):
        machine = Machine.of({unit: draw.randint(1, 2) for unit in loop.units})
        interval = draw.randint(1, 6)
        for _ in range(60):
            starts = {name: draw.randint(0, 14) for name in loop.names}
            if is_plan(loop, machine, interval, starts):
                found.append(Plan(loop, machine, interval, starts))
    return found


PLANS = some_plans(200)


class Made(unittest.TestCase):
    def test_properties(self):
        self.assertEqual((PLAN.loop, PLAN.machine, PLAN.interval, PLAN.starts), (SUM, BOTH, 2, GOOD))
        self.assertEqual((PLAN.slots, PLAN.length), ({"item": 0, "sum": 1}, 3))
        other = Plan(FREE, P, 4, {"c": 8, "b": 7, "a": 5})
        self.assertEqual(list(other.starts.items()), [("a", 5), ("b", 7), ("c", 8)])
        self.assertEqual(list(other.slots.items()), [("a", 1), ("b", 3), ("c", 0)])
        self.assertEqual(other.length, 4)
        for name in ("loop", "machine", "interval", "starts", "slots", "length"):
            with self.assertRaises(AttributeError):
                setattr(PLAN, name, 1)

    def test_length(self):
        for plan in PLANS:
            ends = [plan.starts[one.name] + one.ticks for one in plan.loop.operations]
            self.assertEqual(plan.length, max(ends) - min(plan.starts.values()))

    def test_what_is_no_plan(self):
        for starts in ({"item": 1, "sum": 1}, {"item": 3, "sum": 0}, *NO_STARTS, *all_kinds()):
            self.assertIs(error_of(Plan, SUM, BOTH, 2, starts)[0], InvalidArgument, starts)
        self.assertIs(error_of(Plan, SUM, BOTH, 1, GOOD)[0], InvalidArgument)
        self.assertIs(error_of(Plan, MEET, P, 2, {"u": 0, "v": 1})[0], InvalidArgument)
        self.assertIs(error_of(Plan, SUM, P, 2, GOOD)[0], InvalidArgument)

    def test_wrong_parameters(self):
        for wrong in all_kinds():
            if not isinstance(wrong, Loop):
                self.assertIs(error_of(Plan, wrong, BOTH, 2, GOOD)[0], InvalidLoop)
            if not isinstance(wrong, Machine):
                self.assertIs(error_of(Plan, SUM, wrong, 2, GOOD)[0], InvalidMachine)
        for wrong in NO_INTERVALS:
            self.assertIs(error_of(Plan, SUM, BOTH, wrong, GOOD)[0], InvalidNumber)

    def test_which_comes_first(self):
        self.assertIs(error_of(Plan, None, None, 0, None)[0], InvalidLoop)
        self.assertIs(error_of(Plan, SUM, None, 0, None)[0], InvalidMachine)
        self.assertIs(error_of(Plan, SUM, P, 0, None)[0], InvalidNumber)
        self.assertIs(error_of(Plan, SUM, P, 1, None)[0], InvalidArgument)

    def test_state(self):
        starts = {"sum": 1, "item": 0}
        plan = Plan(SUM, BOTH, 2, starts)
        starts["sum"] = 9
        plan.starts["sum"] = 9
        plan.slots.clear()
        plan.machine.units.clear()
        self.assertEqual((plan.starts, plan.slots, plan), (GOOD, GOOD, PLAN))
        self.assertEqual(list(starts), ["sum", "item"])

    def test_defined_in_the_class(self):
        for name in ("duration", "events", "room", "moved", "shifted", "earliest", "grid", "__and__", "__or__",
                     "__eq__",
                     "__str__"):
            self.assertIn(name, vars(Plan))
        with self.assertRaises(TypeError):
            list(PLAN)

    def test_examples(self):
        self.assertEqual(
            [PLAN.slots, PLAN.length, PLAN.duration(3), PLAN.room("sum"), PLAN.grid(), leeway(SUM, 2, PLAN.starts)],
            [{"item": 0, "sum": 1}, 3, 7, (1, None), "add       1  1\nmem       1  0", (0, 0)])
        self.assertEqual([PLAN.shifted(4).earliest() == PLAN, list(PLAN.events(2))[1:3]],
                         [True, [(1, "sum", 0), (2, "item", 1)]])


class Rounds(unittest.TestCase):
    def test_duration(self):
        self.assertEqual([PLAN.duration(rounds) for rounds in (0, 1, 2, 64)], [0, 3, 5, 129])
        self.assertEqual([PLAN.shifted(9).duration(rounds) for rounds in (0, 1, 2, 64)], [0, 3, 5, 129])

    def test_events(self):
        self.assertTrue(isgenerator(PLAN.events(1)))
        self.assertEqual([list(PLAN.events(0)), list(PLAN.events(1))], [[], [(0, "item", 0), (1, "sum", 0)]])
        self.assertEqual(len(list(PLAN.events(64))), 128)
        late = Plan(SUM, BOTH, 2, {"item": 0, "sum": 4 + 1})
        self.assertEqual(list(late.events(3)), [(0, "item", 0), (2, "item", 1), (4, "item", 2), (5, "sum", 0),
                                                (7, "sum", 1), (9, "sum", 2)])
        same = Plan(FREE, P, 3, {"a": 3, "b": 3, "c": 0})
        self.assertEqual(list(same.events(2)), [(0, "c", 0), (3, "a", 0), (3, "b", 0), (3, "c", 1), (6, "a", 1),
                                                (6, "b", 1)])

    def test_events_of_many_plans(self):
        for plan in PLANS[::20]:
            wanted = [(plan.starts[name] + plan.interval * turn, name, turn) for name in plan.loop for turn in range(5)]
            told = list(plan.events(5))
            self.assertEqual(told, sorted(wanted))
            last = max(tick + plan.loop[name].ticks for tick, name, _ in told)
            self.assertEqual(plan.duration(5), last - told[0][0])

    def test_wrong_rounds(self):
        for wrong in (-1, 65, True, None, "1", (1,), [1], 10 ** 39, SUM):
            for call in (PLAN.duration, PLAN.events):
                kind, error = error_of(call, wrong)
                self.assertIs(kind, InvalidNumber, wrong)
                self.assertIs(error.value, wrong)
        PLAN.events(65)


class Moves(unittest.TestCase):
    def test_room(self):
        self.assertEqual((PLAN.room("item"), PLAN.room("sum")), ((None, 0), (1, None)))
        plan = Plan(MEET, P, 3, {"u": 0, "v": 1})
        self.assertEqual((plan.room("u"), plan.room("v")), ((-1, 0), (1, 2)))
        free = Plan(FREE, P, 2, {"a": 0, "b": 0, "c": 0})
        self.assertEqual([free.room(name) for name in "abc"], [(None, None)] * 3)
        alone = Loop(Operation("a", ticks=2, reads=(("a", 1),)))
        self.assertEqual(Plan(alone, Machine(), 2, {"a": 3}).room("a"), (None, None))
        far = Loop(Operation("a"), Operation("b"), orders=(("a", "b", 0, 3),))
        self.assertEqual(Plan(far, Machine(), 32, {"a": 0, "b": 0}).room("b"), (-96, None))
        self.assertEqual(Plan(far, Machine(), 32, {"a": 10 ** 6, "b": 10 ** 6}).room("a"), (None, 10 ** 6 + 96))

    def test_room_of_many_plans(self):
        for plan in PLANS[::5]:
            for name in plan.loop:
                low, high = plan.room(name)
                for at in range(-10, 30):
                    starts = {**plan.starts, name: at}
                    fits = all(starts[b] - starts[a] >= delay - plan.interval * back
                               for a, b, delay, back in plan.loop.arcs)
                    self.assertEqual(fits, (low is None or low <= at) and (high is None or at <= high))

    def test_moved(self):
        self.assertEqual(PLAN.moved("sum", 3).starts, {"item": 0, "sum": 4})
        self.assertEqual(PLAN.moved("sum", 0), PLAN)
        self.assertEqual(PLAN.moved("sum", 3).moved("sum", -3), PLAN)
        self.assertEqual(PLAN.moved("sum", 10 ** 6 - 1).starts["sum"], 10 ** 6)
        for name, by in (("sum", -1), ("item", 1), ("item", -1), ("sum", 10 ** 6), ("sum", 10 ** 11), ("item", 2)):
            self.assertIs(error_of(PLAN.moved, name, by)[0], InvalidArgument, (name, by))
        self.assertEqual(PLAN.starts, GOOD)

    def test_moved_onto_a_unit_that_is_taken(self):
        plan = Plan(FREE, P, 4, {"a": 0, "b": 0, "c": 0})
        self.assertEqual(plan.moved("b", 2).starts, {"a": 0, "b": 2, "c": 0})
        self.assertIs(error_of(plan.moved, "b", 1)[0], InvalidArgument)
        self.assertEqual(plan.moved("b", 4).slots, plan.slots)

    def test_shifted(self):
        for by in (0, 1, 2, 7, 10 ** 6 - 1):
            self.assertEqual(PLAN.shifted(by).starts, {"item": by, "sum": 1 + by})
            self.assertEqual(PLAN.shifted(by).shifted(-by), PLAN)
        for by in (-1, -2, 10 ** 6, 10 ** 11):
            self.assertIs(error_of(PLAN.shifted, by)[0], InvalidArgument, by)

    def test_wrong_moves(self):
        for wrong in all_kinds() + ["su", 0]:
            for call in (PLAN.room, lambda name: PLAN.moved(name, None)):
                kind, error = error_of(call, wrong)
                self.assertIs(kind, UnknownName, wrong)
                self.assertIs(error.wanted, wrong)
        for wrong in (True, None, "1", (1,), [1], 10 ** 12, -10 ** 12, 10 ** 39, SUM):
            for call in (lambda by: PLAN.moved("sum", by), PLAN.shifted):
                kind, error = error_of(call, wrong)
                self.assertIs(kind, InvalidNumber, wrong)
                self.assertIs(error.value, wrong)


class Same(unittest.TestCase):
    def test_lesser_and_greater(self):
        one = Plan(FREE, P, 2, {"a": 0, "b": 4, "c": 6})
        other = Plan(FREE, P, 2, {"a": 2, "b": 2, "c": 6})
        self.assertEqual((one & other).starts, {"a": 0, "b": 2, "c": 6})
        self.assertEqual((one | other).starts, {"a": 2, "b": 4, "c": 6})
        self.assertEqual((one & one, one | one), (one, one))

    def test_of_what_is_not_alike(self):
        plan = Plan(FREE, P, 2, {"a": 0, "b": 4, "c": 6})
        others = [Plan(FREE, P, 2, {"a": 1, "b": 4, "c": 6}), Plan(FREE, P, 4, {"a": 0, "b": 4, "c": 8}),
                  Plan(FREE, Machine(p=2), 2, {"a": 0, "b": 4, "c": 6}),
                  Plan(Loop(*FREE.operations, orders=(("a", "b", 0, 0),)), P, 2, {"a": 0, "b": 4, "c": 6}),
                  FREE, plan.starts, *all_kinds()]
        self.assertEqual(others[1].slots, plan.slots)
        for other in others:
            for call in (lambda: plan & other, lambda: plan | other):
                self.assertIs(error_of(call)[0], InvalidArgument)

    def test_earliest(self):
        self.assertEqual(PLAN.earliest(), PLAN)
        self.assertEqual(PLAN.moved("sum", 6).earliest(), PLAN)
        self.assertEqual(PLAN.shifted(7).earliest().starts, {"item": 1, "sum": 2})
        plan = Plan(MEET, P, 3, {"u": 2, "v": 3})
        self.assertEqual((plan.earliest(), plan.shifted(300).earliest()), (plan, plan))
        self.assertEqual(Plan(FREE, P, 2, {"a": 10 ** 6, "b": 99, "c": 5}).earliest().starts, {"a": 0, "b": 1, "c": 1})

    def test_earliest_of_all_with_the_same_slots(self):
        loop = Loop(Operation("a", ticks=2, reads=(("c", 1),)), Operation("b", ticks=3, reads=(("a", 0),)),
                    Operation("c"),
                    orders=(("c", "a", 4, 1),))
        seen = {}
        for starts in all_starts(loop, range(13)):
            if is_plan(loop, Machine(), 3, starts):
                plan = Plan(loop, Machine(), 3, starts)
                seen.setdefault(tuple(plan.slots.values()), []).append(plan)
        self.assertEqual(len(seen), 27)
        for same in seen.values():
            least = {name: min(plan.starts[name] for plan in same) for name in loop.names}
            for plan in same[::3]:
                self.assertEqual(plan.earliest().starts, least)

    def test_all_plans_with_the_same_slots(self):
        seen = {}
        for plan in PLANS:
            key = (str(plan.loop.operations), str(plan.loop.arcs), str(plan.machine), plan.interval, str(plan.slots))
            seen.setdefault(key, []).append(plan)
        pairs = 0
        for same in seen.values():
            for one, other in zip(same, same[1:]):
                if one != other:
                    pairs += 1
                self.assertEqual((one & other).starts, {k: min(v, other.starts[k]) for k, v in one.starts.items()})
                self.assertEqual((one | other).starts, {k: max(v, other.starts[k]) for k, v in one.starts.items()})
                self.assertEqual(one.earliest(), other.earliest())
                self.assertEqual(one.earliest() & other, one.earliest())
        self.assertGreater(pairs, 10)


class Texts(unittest.TestCase):
    def test_grid(self):
        self.assertEqual(PLAN.grid(), "add       1  1\nmem       1  0")
        self.assertEqual(Plan(Loop(Operation("a")), Machine(), 3, {"a": 0}).grid(), "")
        self.assertEqual(Plan(Loop(Operation("a")), Machine(abcdefgh=1, b=3), 3, {"a": 0}).grid(),
                         "abcdefgh  0  0  0\nb         0  0  0")
        two = Loop(Operation("a", uses=(("p", 0), ("p", 3))), Operation("b", uses=(("p", 0), ("q", 1))))
        self.assertEqual(Plan(two, Machine(q=1, p=3), 3, {"a": 1, "b": 4}).grid(),
                         "p         0  3  0\nq         0  0  1")

    def test_equal(self):
        self.assertIs(PLAN == Plan(SUM, BOTH, 2, {"sum": 1, "item": 0}), True)
        self.assertIs(PLAN != Plan(SUM, BOTH, 2, {"sum": 1, "item": 0}), False)
        others = [PLAN.shifted(2), Plan(SUM, BOTH, 3, GOOD), Plan(SUM, BOTH + P, 2, GOOD),
                  Plan(SUM, BOTH + BOTH, 2, GOOD),
                  Plan(Loop(*SUM.operations, orders=(("item", "sum", 1, 1),)), BOTH, 2, GOOD), GOOD, SUM, "plan",
                  *all_kinds()]
        for other in others:
            self.assertIs(PLAN == other, False)
            self.assertIs(PLAN != other, True)

    def test_text(self):
        self.assertEqual(str(PLAN), "plan of 2 operations, interval 2")
        self.assertEqual(str(Plan(FREE, P, 32, {"a": 0, "b": 0, "c": 0})), "plan of 3 operations, interval 32")


if __name__ == "__main__":
    unittest.main()
