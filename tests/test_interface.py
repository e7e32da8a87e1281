"""The whole interface is there: its names, arguments and constants, each in its own file."""

import ast
import unittest
from importlib import import_module
from inspect import Parameter, getfile, isfunction, signature
from pathlib import Path

# For each module its functions and classes with their arguments.
MODULES = {
    "base.numbers": """is_name(value) is_integer(value) slot_of(tick,interval) rounded_up(number,slot,interval)
        times_alive(begin,end,tick,interval) common_multiple(*numbers)""",
    "loop.loops": "Operation(name,*,ticks=1,reads=(),uses=()) Loop(*operations,orders=())",
    "plan.machines": "Machine(**units)",
    "plan.plans": """is_starts(loop,value) is_fitting(loop,interval,value) is_plan(loop,machine,interval,value)
        leeway(loop,interval,starts) asked(loop,interval,starts) faults(loop,machine,interval,starts)
        Plan(loop,machine,interval,starts)""",
    "rings.starts": """start_paper(loop,interval) is_start_paper(loop,interval,value) least_starts(loop,interval)
        gap(loop,interval,source,target) slacks(loop,interval) free_interval(loop)""",
    "rings.ratios": """ratio(loop) critical(loop) ratio_paper(loop) is_ratio_paper(loop,value) unrolled(loop,copies)
        unrolled_interval(loop,copies) best_copies(loop)""",
    "units.trees": """need(loop,interval,slots,circuit) slots_paper(loop,interval,slots)
        is_slots_paper(loop,interval,slots,value) interval_paper(loop,machine,interval)
        is_interval_paper(loop,machine,interval,value) has_plan(loop,machine,interval)""",
    "units.least": """bounds(loop,machine) least_interval(loop,machine) intervals(loop,machine,*,most=32)
        least_paper(loop,machine) is_least_paper(loop,machine,value)""",
    "file.spans": "Spans(interval,rows) spans_of(loop,interval,starts)",
    "file.wirings": """Wiring(spans,follows) wiring_paper(spans,registers) is_wiring_paper(spans,registers,value)
        joined(wiring) fewest_cycles(spans,registers) how_many(spans) each_wiring(spans)""",
    "file.turning": """is_bases(spans,registers,value) turning_paper(spans,registers)
        is_turning_paper(spans,registers,value) least_turning(spans) trip(spans,order) bases_of(wiring,*,base=0)
        wiring_of(spans,registers,bases) held(spans,registers,bases,tick) each_bases(spans,registers)""",
    "file.still": """is_places(spans,copies,registers,value) still_paper(spans,copies,registers)
        is_still_paper(spans,copies,registers,value) least_still(spans,copies) fitting_copies(spans,registers)
        each_places(spans,copies,registers) enough_copies(spans) lasting_places(spans,copies)
        chart(spans,copies,registers,places)""",
    "flow.sums": """is_flow(loop,value) line(loop,flow) sum_of(loop,interval,starts) sum_paper(loop,interval)
        is_sum_paper(loop,interval,value) least_sums(loop) least_length(loop,interval,name)
        registers_bound(loop,interval)""",
    "code.kernels": "Kernel(loop,interval,registers,rows) kernel_of(loop,interval,starts,registers,bases)",
    "code.checks": """wrong_reading(kernel,rounds) is_wrong_reading(kernel,rounds,value) long_readings(kernel)
        does_right(kernel) enough_rounds(kernel) least_wrong(kernel)""",
    "change.changes": """with_operation(loop,operation) without_operation(loop,name) with_order(loop,order)
        without_order(loop,order) with_unit(machine,unit,many) is_easier(loop,machine,other,units)
        carried(loop,source,target,distance) completed(loop,machine,interval,starts)
        fewest_moved(loop,machine,interval,starts) is_fewest_moved(loop,machine,interval,starts,value)
        least_machines(loop,interval)""",
    "text.formats": """write_loop(loop) write_machine(machine) write_spans(spans) write_plan(loop,interval,starts)
        write_tree(loop,interval,tree) write_bases(spans,registers,bases) read_loop(text) read_machine(text)
        read_spans(text) read_plan(loop,text) read_tree(loop,interval,text) read_bases(spans,text)""",
    "live.desk": "Desk(loop,machine)",
}
CONSTANTS = {
    "base.numbers": {"MAX_INTERVAL": 32, "MAX_TICKS": 4},
    "loop.loops": {"MAX_OPERATIONS": 8, "MAX_DISTANCE": 3, "MAX_ROUNDS": 64},
    "plan.machines": {"MAX_UNITS": 3, "MAX_SAME": 3}, "plan.plans": {"MAX_START": 10 ** 6},
    "units.trees": {"MAX_ASKING": 4}, "file.spans": {"MAX_VALUES": 8, "MAX_LIFE": 8}, "file.wirings": {"MAX_WIRED": 72},
    "file.turning": {"MAX_FILE": 72, "MAX_LISTED": 6}, "file.still": {"MAX_COPIES": 6, "MAX_PAIRS": 12},
    "code.kernels": {"MAX_STAGES": 64}, "live.desk": {"MAX_PINS": 12},
}
# For each class its methods with their arguments, its properties, and its operators.
CLASSES = {
    ("loop.loops", "Operation"): ("renamed(names) with_ticks(ticks)", "name ticks reads uses read_names units",
                                  "eq str"),
    ("loop.loops", "Loop"): ("of(operations,*,orders=()) rings() ring_sum(ring) renamed(names) played(rounds,meaning)",
                             "operations orders names arcs readings units asking", "getitem contains len iter eq str"),
    ("plan.machines", "Machine"): ("of(units) is_below(value)", "units", "getitem contains len iter eq str add"),
    ("plan.plans",
     "Plan"): ("""duration(rounds) events(rounds) room(name) moved(name,by) shifted(by) earliest() grid()""",
                             "loop machine interval starts slots length", "and or eq str"),
    ("file.spans", "Spans"): ("""alive(tick,*names) across(moment,*names) is_full(moment,*names) most_of(*names)
                              is_apart(*names) each_alive(tick)""",
                              "interval rows names most peaks total pieces normal",
                              "getitem contains len iter add or and eq str"),
    ("file.wirings", "Wiring"): ("after(name,turn) each_free(moment) exchanged(moment,one,other)",
                                 "spans follows registers cycles sizes copies", "getitem len eq str"),
    ("code.kernels", "Kernel"): ("guards(rounds,number) timeline(rounds) played(rounds,meaning) later(passes)",
                                 "loop interval registers rows starts bases stages", "getitem len eq str"),
    ("live.desk", "Desk"): ("""put(operation,*,start=None) drop(name) order(order) lift(order) unit(name,many)
                            take(interval,starts) clear() move(name,tick) press() pin(pin) unpin(pin) undo(*,many=1)
                            trial() during(call) twin()""", "loop machine interval starts least registers pins",
                            "iadd isub eq contains len str iter"),
}
ERRORS = {"RoundError": ValueError, "UnknownName": KeyError, "InvalidNumber": RuntimeError, "TooMany": OverflowError,
          "NothingToUndo": IndexError, "Broken": ArithmeticError}


def told(call):
    """The name of a function or class with its arguments, as in the tables."""
    rows = [str(one) for one in signature(call).parameters.values() if one.name != "self"]
    kinds = [one.kind for one in signature(call).parameters.values() if one.name != "self"]
    if Parameter.KEYWORD_ONLY in kinds and Parameter.VAR_POSITIONAL not in kinds:
        rows.insert(kinds.index(Parameter.KEYWORD_ONLY), "*")
    return f"{call.__name__}({','.join(rows)})"


class Interface(unittest.TestCase):
    def test_functions_and_classes(self):
        for path, rows in MODULES.items():
            module = import_module("overrounds." + path)
            tree = ast.parse(Path(module.__file__).read_text("ascii"))
            defined = {node.name for node in tree.body if isinstance(node, (ast.FunctionDef, ast.ClassDef))}
            for row in rows.split():
                name = row.split("(")[0]
                self.assertIn(name, defined, path)
                self.assertEqual(told(getattr(module, name)), row)
                self.assertEqual(getfile(getattr(module, name)), module.__file__)

    def test_constants(self):
        for path, values in CONSTANTS.items():
            module = import_module("overrounds." + path)
            self.assertEqual({name: getattr(module, name) for name in values}, values)

    def test_methods_and_properties(self):
        for (path, name), (methods, properties, operators) in CLASSES.items():
            own = vars(getattr(import_module("overrounds." + path), name))
            for row in methods.split():
                method = own[row.split("(")[0]]
                if isinstance(method, classmethod):
                    method = getattr(getattr(import_module("overrounds." + path), name), row.split("(")[0])
                self.assertEqual(told(method), row)
            for one in properties.split():
                self.assertIsInstance(own[one], property, (name, one))
            for one in operators.split():
                self.assertTrue(isfunction(own[f"__{one}__"]), (name, one))

    def test_errors(self):
        module = import_module("overrounds.errors")
        for name, base in ERRORS.items():
            self.assertEqual(getattr(module, name).__bases__, (base,))
        for name in ("InvalidOperation", "InvalidLoop", "InvalidMachine", "InvalidSpans", "InvalidWiring",
                     "InvalidKernel",
                     "InvalidArgument", "ParseError"):
            self.assertEqual(getattr(module, name).__bases__, (module.RoundError,))


if __name__ == "__main__":
    unittest.main()
