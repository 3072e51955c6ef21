"""The interface: names, arguments, where things are defined; [0.4] to [0.6] for results."""

import inspect
import types
import unittest

from helping import example, example_meter, sample_works
from purseahead import bench, bounded, charts, charttext, comparing, copying, covering, demands, drifts, edits, errors
from purseahead import evenness, fewest, flatworks, kindmeters, kinds, lanes, leads, leastmeters, logs, mends, meters
from purseahead import metertext, moving, paces, parts, placelots, pricelimits, pricing, runs, sharing, stops, telling
from purseahead import watches, weaves, weights, workleast, workmeters, workpaces, workruns, works
from purseahead.bench import Bench, Trial
from purseahead.charts import Chart
from purseahead.kindmeters import KindMeter
from purseahead.kinds import KindChart
from purseahead.lanes import Lanes
from purseahead.meters import Meter
from purseahead.paces import Purse
from purseahead.watches import Watch
from purseahead.workmeters import WorkMeter
from purseahead.works import Works

FUNCTIONS = {
    charts: """check_place(chart, place) check_arrow(chart, arrow) scaled(chart, by) renamed(chart, moves)
        beside(chart, other)""",
    runs: """check_run(chart, run) places_of(chart, run) last_place(chart, run) used_by(chart, run) used_row(chart, run)
        all_runs(chart, length) count_runs(chart, length) run_to(chart, place)""",
    parts: """parts_of(chart) part_of(chart, place) within_part(chart, arrow) check_ring(chart, ring)
        ring_places(chart, ring) rings_of(chart)""",
    charttext: "chart_text(chart) read_chart(text)",
    meters: "",
    metertext: "meter_text(meter) read_meter(chart, text)",
    drifts: "find_drift(meter) find_fall(meter) find_rise(meter) part_levels(meter) levels_fault(meter, levels)",
    leads: """leads_along(meter, run) low_leads(meter) high_leads(meter) find_low_run(meter, place)
        find_high_run(meter, place) greatest_lead(meter) floor_fault(meter, floor) ceiling_fault(meter, ceiling)""",
    covering: """find_short(meter) is_covered(meter) least_first(meter) even_leads(meter) leads_fault(meter, leads)
        is_metered(meter)""",
    demands: """check_demands(count, demands) least_numbers(count, demands) greatest_numbers(count, demands, highs)
        least_fault(count, demands, least) ring_fault(count, demands, ring)""",
    evenness: """check_lot(chart, lot) check_leads(chart, leads) lot_demands(chart, lot) first_unmet(chart, lot, leads)
        walk_places(chart, start, steps) walk_sum(chart, steps) walk_fault(chart, lot, walk)""",
    leastmeters: """least_even(chart, lot) least_above(chart, lot, lows) reasons_fault(chart, lot, lows, even)
        chain_of(chart, even, place) leads_between(chart, lot, lows, highs)
        pinch_fault(chart, lot, lows, highs, pinch) meter_of(chart, leads) least_meter(chart, lot)""",
    bounded: """bounded_meter(chart, lot) bounded_fault(chart, lot, meter) need_from(chart, lot, place)
        all_needs(chart, lot) covering_meter(chart, lot)""",
    fewest: """check_most(chart, most) find_claims(chart, *, most=None) claim_fault(chart, claim, *, most=None)
        least_lots(chart, *, most=None) fewest(chart, *, most=None) needed_arrows(chart, *, most=None)""",
    weights: """check_weights(chart, weights) cheapest(chart, weights, *, most=None)
        share_out(chart, weights, *, most=None) trade_front(chart)""",
    placelots: """check_places(chart, places) least_even_places(chart, places) place_walk_fault(chart, places, steps)
        gathered_chart(chart) fewest_places(chart)""",
    stops: """check_limit(limit) good_leads(meter) plain_stop(chart, run, limit) one_paced(meter, run, limit)
        early_most(meter) lag_most(meter, most) find_further(meter, other) untested_most(meter)""",
    paces: """check_gates(meter, gates) least_gates(meter) two_paced(meter, run, limit, *, gates=None)
        tests_saved(meter, run, limit, *, gates=None) find_parting(meter, gates) slow_most(meter, gates, most)""",
    works: """list_points(works) list_calls(works) list_called(works) list_marks(works) check_point(works, point)
        find_call_ring(works)""",
    workruns: """check_steps(works, steps) following_steps(works, steps) stand_after(works, steps)
        visits_of(works, steps) used_by_steps(works, steps) all_work_runs(works, length)
        count_work_runs(works, length) find_whole_run(works, procedure) find_run_to(works, point)""",
    workmeters: """leads_of_steps(meter, steps) even_works(meter) is_metered_works(meter)
        meter_from_leads(works, leads)""",
    workpaces: """plain_steps_stop(works, steps, limit) least_work_gates(meter)
        two_paced_works(meter, steps, limit, *, gates=None) find_work_parting(meter, gates)""",
    workleast: """check_work_lot(works, lot) least_even_works(works, lot) work_walk_fault(works, lot, walk)
        even_works_fault(works, lot, even) fewest_work_lot(works)""",
    flatworks: """flatten_works(works) flat_run(works, steps) steps_of_run(works, run) flat_lot(works, lot)
        flat_meter(meter) spread_works(works) spread_run(works, steps) spread_meter(meter) work_lows(meter)
        work_highs(meter)""",
    kinds: "check_prices(kindchart, prices) price_row(prices, row) used_by_kind(kindchart, run)",
    kindmeters: "find_kind_short(kindmeter) even_rows(kindmeter)",
    pricing: """least_even_kinds(kindchart, lot) kind_meter(kindchart, rows) even_at(kindchart, lot, prices)
        apart_prices(kindchart, lot)""",
    pricelimits: """price_limits(kindchart, lot) limit_fault(kindchart, lot, limit) ratio_span(kindchart, lot)
        fewest_kinds(kindchart)""",
    moving: """moved(meter, places, by) find_drops(meter, other) find_moves(meter, other)
        find_single_moves(meter, other)""",
    comparing: "lower_of(meter, other) upper_of(meter, other) find_sooner(meter, other)",
    copying: """copied(chart, place, lot) lead_run(copy, run) lead_back(copy, run) lifted_lot(copy, lot)
        lifted_meter(copy, meter) best_copy(chart, lot)""",
    weaves: """weave_run(meters, limit, deeds) check_lane_runs(meters, runs) all_weaves(meters, runs)
        count_weaves(meters, runs)""",
    sharing: """limit_of(meters, runs) first_refused(meters, runs, limit) most_unused(meters)
        unused_fault(meters, told) best_turns(meters, runs) turns_fault(meters, runs, told)""",
    logs: """log_of(meter, run) check_log(log) find_places(meter, log) find_log_run(meter, log, place)
        sure_arrows(meter, log) some_arrows(meter, log) used_range(meter, log)""",
    telling: "find_telling(meter, other)",
    edits: "apply_edits(chart, lot, edits) check_goal(goal) meets_goal(chart, lot, goal)",
    mends: "check_pool(pool) find_mends(chart, lot, pool, goal) find_spoilers(chart, lot, pool, goal)",
    bench: "in_trial(bench, work)",
}
RESULTS = {
    drifts: "Drift(ring, by)",
    covering: "Short(run, by) Uneven(place, one, other)",
    demands: "Least(numbers, reasons) DemandRing(indexes)",
    evenness: "Even(leads, reasons) BadWalk(steps)",
    leastmeters: "Between(least, greatest) Pinch(start, steps)",
    bounded: "Bounded(meter, lows, reasons) Need(used, run) Endless(ring)",
    fewest: "Claim(arrows, start, steps) Fewest(number, lot, floor)",
    weights: "Cheapest(total, lot) Shares(shares, spent, total) Trade(number, greatest, lot)",
    placelots: "Gathered(chart, entries) FewestPlaces(number, places)",
    stops: """Stop(places, unused) Early(unused, run, limit) Lag(number, run, limit) Further(place, run, limit)
        Stretch(number, run) Untested(ring)""",
    paces: """Paced(places, unused, paces, purse_tests, slow_tests) Parting(place, run, limit)
        SlowGo(number, run, limit)""",
    workruns: "Standing(pending, point, returned)",
    workmeters: "WorkLeads(leads) UnevenWorks(point, one, other)",
    workpaces: "WorkParting(point, steps, limit)",
    workleast: "EvenWorks(leads, chains) WorkWalk(steps) FewestWorks(number, lot)",
    flatworks: "Flat(chart, spots, marks) Spread(chart, spots, copies, marks)",
    kindmeters: "KindShort(kind, found) KindUneven(kind, found)",
    pricing: "EvenKinds(rows) KindWalk(kind, steps)",
    pricelimits: "Limit(row, steps) Span(low, high) FewestKinds(number, lot)",
    moving: "Apart(place, one, other) Stuck(ring)",
    comparing: "Sooner(run, limit)",
    copying: "Copy(source, chart, place, origins) BestCopy(place, arrows, greatest)",
    weaves: "Woven(done, refused, purse, used)",
    sharing: "Unused(unused, lane, arrow, runs, limit) Turns(limit, order)",
}
METHODS = {
    Chart: """__init__(self, costs, arrows) outs(self, place) into(self, place) __len__(self) __iter__(self)
        __eq__(self, other)""",
    Meter: """__init__(self, chart, first, charges) charged(self, run) lead_ahead(self, run) lead_behind(self, run)
        with_first(self, first) with_charge(self, arrow, charge) __add__(self, other) __eq__(self, other)""",
    Purse: "__init__(self, meter, limit, gates=None) take(self, arrow) fill(self, amount)",
    Works: "__init__(self, charts, calls) __len__(self) __eq__(self, other)",
    WorkMeter: """__init__(self, works, first, calls, arrows) charged(self, steps) lead_behind(self, steps)
        __eq__(self, other)""",
    KindChart: """__init__(self, rows, arrows) of_kind(self, kind) at_prices(self, prices) __len__(self)
        __eq__(self, other)""",
    KindMeter: """__init__(self, kindchart, first, charges) charged(self, run) lead_ahead(self, run)
        lead_behind(self, run) of_kind(self, kind) at_prices(self, prices) __eq__(self, other)""",
    Lanes: "__init__(self, meters, limit) begin(self, lane) take(self, lane, arrow) fork(self, lane) close(self, lane)",
    Watch: "__init__(self, meter) see(self, charge) take_back(self)",
    Bench: """__init__(self, chart, lot=()) change(self, edit) take_back(self) even_now(self) meets(self, goal)
        trial(self, edits, goal)""",
    Trial: "__init__(self, bench) __enter__(self)",
}
PROPERTIES = ((Chart, "ends"), (Meter, "charged_arrows"), (Purse, "unused_now"), (WorkMeter, "charged_marks"),
              (KindMeter, "charged_arrows"), (Lanes, "held_now"))
GENERATORS = (runs.all_runs, parts.rings_of, leads.leads_along, evenness.lot_demands, fewest.least_lots,
              workruns.all_work_runs, weaves.all_weaves, mends.find_mends, mends.find_spoilers)
HOMES = {Chart: charts, Meter: meters, Purse: paces, Works: works, WorkMeter: workmeters, KindChart: kinds,
         KindMeter: kindmeters, Lanes: lanes, Watch: watches, Bench: bench, Trial: bench}


def listed(text):
    """The (name, arguments) of a listing such as "f(a, b) g(c)"."""
    found = []
    for word in " ".join(text.split()).replace(", ", ",").split():
        name, arguments = word[:-1].split("(", 1)
        found.append((name, arguments.split(",")))
    return found


def parameters(work):
    """The parameters as a listing writes them, the bare star among them."""
    return str(inspect.signature(work))[1:-1].split(", ")


def results():
    for module, text in RESULTS.items():
        for name, arguments in listed(text):
            yield module, vars(module)[name], arguments


class Interface(unittest.TestCase):
    def test_functions(self):
        for module, text in FUNCTIONS.items():
            for name, arguments in listed(text):
                work = vars(module)[name]
                self.assertIsInstance(work, types.FunctionType)
                self.assertEqual(parameters(work), arguments, name)
                self.assertEqual(work.__module__, module.__name__, name)

    def test_results(self):
        for module, made, arguments in results():
            self.assertEqual(parameters(made), arguments, made)
            self.assertEqual(made.__module__, module.__name__, made)
            self.assertIn("__eq__", vars(made))
            self.assertIn("__init__", vars(made))

    def test_methods(self):
        for made, text in METHODS.items():
            for name, arguments in listed(text):
                self.assertIsInstance(vars(made)[name], types.FunctionType)
                self.assertEqual(parameters(vars(made)[name]), arguments, name)
        for made, name in PROPERTIES:
            self.assertIsInstance(vars(made)[name], property)
        self.assertIsInstance(vars(Meter)["plain"], staticmethod)
        self.assertEqual(parameters(Meter.plain), ["chart"])
        for made, home in HOMES.items():
            self.assertEqual(made.__module__, home.__name__)

    def test_attributes_of_a_purse(self):
        purse = Purse(example_meter(), 9)
        for name in ("pace", "places", "place", "purse_tests", "slow_tests"):
            self.assertIn(name, vars(purse))

    def test_attributes_of_what_changes(self):
        told = {Lanes([example_meter()], 9): "meters limit purse used unused stands places",
                Watch(example_meter()): "meter log places", Bench(example()): "chart lot done",
                Trial(Bench(example())): "bench"}
        for made, names in told.items():
            self.assertLessEqual(set(names.split()), set(vars(made)))

    def test_generators(self):
        for work in GENERATORS:
            self.assertTrue(inspect.isgeneratorfunction(work), work)

    def test_errors_are_defined_there(self):
        for name, value in vars(errors).items():
            if inspect.isclass(value) and issubclass(value, Exception):
                self.assertEqual(value.__module__, "purseahead.errors", name)


class Equality(unittest.TestCase):
    def test_attributes(self):
        for _, made, arguments in results():
            values = [object() for _ in arguments]
            self.assertEqual(vars(made(*values)), dict(zip(arguments, values)))
            self.assertEqual(vars(made(**dict(zip(arguments, values)))), dict(zip(arguments, values)))

    def test_nothing_is_checked(self):
        for _, made, arguments in results():
            for value in (None, True, -1, "x", [1], {}):
                self.assertEqual(vars(made(*[value for _ in arguments])), {name: value for name in arguments})

    def test_equal(self):
        for _, made, arguments in results():
            values = [(at,) for at in range(len(arguments))]
            self.assertTrue(made(*values) == made(*[(at,) for at in range(len(arguments))]))
            self.assertFalse(made(*values) != made(*values))
            for at in range(len(arguments)):
                others = list(values)
                others[at] = (99,)
                self.assertFalse(made(*values) == made(*others), made)
                self.assertTrue(made(*values) != made(*others), made)

    def test_other_classes(self):
        made = [each(*[(at,) for at in range(len(arguments))]) for _, each, arguments in results()]
        things = [*made, example(), example_meter(), sample_works(), kinds.KindChart([[2]], []),
                  workmeters.WorkMeter(sample_works(), 0, [(0, 0), (0, 0, 0)], [(0,), (0, 0)]),
                  kindmeters.KindMeter(kinds.KindChart([[2]], []), [2], [])]
        for one in range(len(things)):
            for two in range(len(things)):
                self.assertIs(things[one] == things[two], one == two)
            for other in (None, 0, (), "", vars(things[one]), tuple(vars(things[one]).values())):
                self.assertFalse(things[one] == other)
                self.assertFalse(other == things[one])


if __name__ == "__main__":
    unittest.main()
