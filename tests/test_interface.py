"""The interface: names, arguments, where things are defined; [0.4] to [0.6] for results."""

import inspect
import types
import unittest

from helping import example, example_meter
from purseahead import charts, charttext, covering, demands, drifts, errors, evenness, leads, leastmeters, meters
from purseahead import metertext, parts, runs
from purseahead.charts import Chart
from purseahead.meters import Meter

FUNCTIONS = {
    charts: """check_place(chart, place) check_arrow(chart, arrow) scaled(chart, by) renamed(chart, moves)
        beside(chart, other)""",
    runs: """check_run(chart, run) places_of(chart, run) last_place(chart, run) used_by(chart, run) used_row(chart, run)
        all_runs(chart, length) count_runs(chart, length) run_to(chart, place)""",
    parts: """parts_of(chart) part_of(chart, place) within_part(chart, arrow) check_ring(chart, ring)
        ring_places(chart, ring) rings_of(chart)""",
    charttext: "chart_text(chart) read_chart(text)",
    meters: "",
    metertext: "meter_text(meter) read_meter(chart, text)",
    drifts: "find_drift(meter) find_fall(meter) find_rise(meter) part_levels(meter) levels_fault(meter, levels)",
    leads: """leads_along(meter, run) low_leads(meter) high_leads(meter) find_low_run(meter, place)
        find_high_run(meter, place) greatest_lead(meter) floor_fault(meter, floor) ceiling_fault(meter, ceiling)""",
    covering: """find_short(meter) is_covered(meter) least_first(meter) even_leads(meter) leads_fault(meter, leads)
        is_metered(meter)""",
    demands: """check_demands(count, demands) least_numbers(count, demands) greatest_numbers(count, demands, highs)
        least_fault(count, demands, least) ring_fault(count, demands, ring)""",
    evenness: """check_lot(chart, lot) check_leads(chart, leads) lot_demands(chart, lot) first_unmet(chart, lot, leads)
        walk_places(chart, start, steps) walk_sum(chart, steps) walk_fault(chart, lot, walk)""",
    leastmeters: """least_even(chart, lot) least_above(chart, lot, lows) reasons_fault(chart, lot, lows, even)
        chain_of(chart, even, place) leads_between(chart, lot, lows, highs)
        pinch_fault(chart, lot, lows, highs, pinch) meter_of(chart, leads) least_meter(chart, lot)""",
}
RESULTS = {
    drifts: "Drift(ring, by)",
    covering: "Short(run, by) Uneven(place, one, other)",
    demands: "Least(numbers, reasons) DemandRing(indexes)",
    evenness: "Even(leads, reasons) BadWalk(steps)",
    leastmeters: "Between(least, greatest) Pinch(start, steps)",
}
METHODS = {
    Chart: """__init__(self, costs, arrows) outs(self, place) into(self, place) __len__(self) __iter__(self)
        __eq__(self, other)""",
    Meter: """__init__(self, chart, first, charges) charged(self, run) lead_ahead(self, run) lead_behind(self, run)
        with_first(self, first) with_charge(self, arrow, charge) __add__(self, other) __eq__(self, other)""",
}
GENERATORS = (runs.all_runs, parts.rings_of, leads.leads_along, evenness.lot_demands)


def listed(text):
    """The (name, arguments) of a listing such as "f(a, b) g(c)"."""
    found = []
    for word in " ".join(text.split()).replace(", ", ",").split():
        name, arguments = word.rstrip(")").split("(")
        found.append((name, arguments.split(",")))
    return found


def parameters(work):
    return list(inspect.signature(work).parameters)


def results():
    for module, text in RESULTS.items():
        for name, arguments in listed(text):
            yield module, vars(module)[name], arguments


class Interface(unittest.TestCase):
    def test_functions(self):
        for module, text in FUNCTIONS.items():
            for name, arguments in listed(text):
                work = vars(module)[name]
                self.assertIsInstance(work, types.FunctionType)
                self.assertEqual(parameters(work), arguments, name)
                self.assertEqual(work.__module__, module.__name__, name)

    def test_results(self):
        for module, made, arguments in results():
            self.assertEqual(parameters(made), arguments, made)
            self.assertEqual(made.__module__, module.__name__, made)
            self.assertIn("__eq__", vars(made))
            self.assertIn("__init__", vars(made))

    def test_methods(self):
        for made, text in METHODS.items():
            for name, arguments in listed(text):
                self.assertIsInstance(vars(made)[name], types.FunctionType)
                self.assertEqual(parameters(vars(made)[name]), arguments, name)
        self.assertIsInstance(vars(Chart)["ends"], property)
        self.assertIsInstance(vars(Meter)["charged_arrows"], property)
        self.assertIsInstance(vars(Meter)["plain"], staticmethod)
        self.assertEqual(parameters(Meter.plain), ["chart"])
        self.assertEqual((Chart.__module__, Meter.__module__), ("purseahead.charts", "purseahead.meters"))

    def test_generators(self):
        for work in GENERATORS:
            self.assertTrue(inspect.isgeneratorfunction(work), work)

    def test_errors_are_defined_there(self):
        for name, value in vars(errors).items():
            if inspect.isclass(value) and issubclass(value, Exception):
                self.assertEqual(value.__module__, "purseahead.errors", name)


class Equality(unittest.TestCase):
    def test_attributes(self):
        for _, made, arguments in results():
            values = [object() for _ in arguments]
            self.assertEqual(vars(made(*values)), dict(zip(arguments, values)))
            self.assertEqual(vars(made(**dict(zip(arguments, values)))), dict(zip(arguments, values)))

    def test_nothing_is_checked(self):
        for _, made, arguments in results():
            for value in (None, True, -1, "x", [1], {}):
                self.assertEqual(vars(made(*[value for _ in arguments])), {name: value for name in arguments})

    def test_equal(self):
        for _, made, arguments in results():
            values = [(at,) for at in range(len(arguments))]
            self.assertTrue(made(*values) == made(*[(at,) for at in range(len(arguments))]))
            self.assertFalse(made(*values) != made(*values))
            for at in range(len(arguments)):
                others = list(values)
                others[at] = (99,)
                self.assertFalse(made(*values) == made(*others), made)
                self.assertTrue(made(*values) != made(*others), made)

    def test_other_classes(self):
        made = [each(*[(at,) for at in range(len(arguments))]) for _, each, arguments in results()]
        things = [*made, example(), example_meter()]
        for one in range(len(things)):
            for two in range(len(things)):
                self.assertIs(things[one] == things[two], one == two)
            for other in (None, 0, (), "", vars(things[one]), tuple(vars(things[one]).values())):
                self.assertFalse(things[one] == other)
                self.assertFalse(other == things[one])


class Unchanged(unittest.TestCase):
    """What is passed to one function after the other stays as it was."""

    def test_chart_and_meter(self):
        chart, meter = example(), example_meter()
        for module, text in FUNCTIONS.items():
            for name, arguments in listed(text):
                if arguments in (["chart"], ["meter"]):
                    found = vars(module)[name](chart if arguments == ["chart"] else meter)
                    if inspect.isgenerator(found):
                        list(found)
        self.assertEqual((chart, meter), (example(), example_meter()))

    def test_lists(self):
        chart, meter = example(), example_meter()
        calls = [(runs.check_run, [chart, [0, 1, 2]]), (runs.used_row, [chart, [0, 1, 2]]),
                 (parts.check_ring, [chart, [0, 1]]), (parts.ring_places, [chart, [0, 1]]),
                 (meter.charged, [[0, 1]]), (meter.lead_behind, [[0, 1]]),
                 (drifts.levels_fault, [meter, [0, -2, -2, 0]]),
                 (leads.floor_fault, [meter, [6, 4, 4, 4]]), (leads.ceiling_fault, [meter, [6, 4, 4, 4]]),
                 (covering.leads_fault, [meter, [6, 4, 4, 4]]), (evenness.first_unmet, [chart, [1, 3], [6, 4, 4, 4]]),
                 (evenness.walk_places, [chart, 2, [(2, "back")]]), (evenness.walk_sum, [chart, [(2, "back")]]),
                 (leastmeters.meter_of, [chart, [6, 4, 4, 4]]), (leastmeters.least_meter, [chart, [1, 3]]),
                 (charts.renamed, [chart, [0, 2, 1, 3]]), (demands.least_numbers, [1, [[0, None, 3]]]),
                 (demands.greatest_numbers, [1, [[0, None, 3]], [5]])]
        for work, arguments in calls:
            before = repr([each for each in arguments if isinstance(each, list)])
            work(*arguments)
            self.assertEqual(repr([each for each in arguments if isinstance(each, list)]), before, work)


if __name__ == "__main__":
    unittest.main()
