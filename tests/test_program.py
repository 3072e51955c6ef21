"""[0.4] to [0.6] over the whole program: what is passed in, what is returned, and what changes."""

import copy
import inspect
import unittest

from helping import example, example_meter, ring_kinds, sample_kinds, sample_works
from test_interface import FUNCTIONS, listed
from purseahead import bench, charts, charttext, copying, demands, evenness, fewest, flatworks, kindmeters
from purseahead import leastmeters, placelots, pricelimits, sharing, workleast, workmeters, workpaces
from purseahead.bench import Bench
from purseahead.charts import Chart
from purseahead.lanes import Lanes
from purseahead.meters import Meter
from purseahead.paces import Purse
from purseahead.watches import Watch

DEMANDS = ((0, None, 3), (1, 0, -1), (1, None, 0), (0, 1, -2))
WORK_LOT = (("arrow", 1, 1), ("call", 0, 0))


def work_meter():
    return workmeters.WorkMeter(sample_works(), 2, [(9, 0), (0, 0, 0)], [(0,), (0, 3)])


def kind_meter():
    return kindmeters.KindMeter(sample_kinds(), (1, 2), ((0, 0), (0, 2), (0, 0)))


# What may be passed for a parameter, whatever the function is.
USUAL = {
    "chart": example(), "meter": example_meter(), "other": example_meter(7), "place": 2, "arrow": 1, "by": 2, "run": (0, 1, 2),
    "length": 3, "moves": (0, 2, 1, 3), "ring": (0, 1), "text": "6 : 0 5 0 6 0", "levels": (0, -2, -2, 0),
    "floor": (6, 4, 4, 4), "ceiling": (6, 4, 4, 4), "leads": (6, 4, 4, 4), "count": 2, "demands": DEMANDS, "highs": (9, 9),
    "least": demands.Least((3, 2), (0, 1)), "lot": (1, 3), "start": 2, "lows": (0, 5, 0, 0), "most": 8,
    "even": leastmeters.least_even(example(), (1, 3)), "claim": fewest.find_claims(example())[0], "weights": (1, 2, 3, 4, 5),
    "places": (0, 2), "limit": 14, "gates": (6, 3, 4, 1), "works": sample_works(), "point": (1, 2), "procedure": 1,
    "kindchart": ring_kinds(), "prices": (3, 5), "row": (2, 4), "rows": ((6, 2), (4, 1), (4, 1), (4, 1)), "kindmeter": kind_meter(),
    "copy": copying.copied(example(), 0, (1,)), "meters": (example_meter(), example_meter()), "runs": ((2, 3), None),
    "deeds": (("begin", 0), ("take", 0, 2), ("fork", 0), ("close", 2)), "log": (6, 5), "goal": ("within", 6),
    "edits": (("cost", 0, 5), ("lift", 1), ("add", 3, 0)), "pool": (("lift", 1), ("cost", 2, 0), ("lift", 3)),
    "steps": (("call",), ("arrow", 1), ("return",), ("arrow", 0))}
# What some functions take instead.
OWN = {
    (charts, "beside"): {"other": example()}, (charttext, "read_chart"): {"text": "2 3 : 0>1 1>0"},
    (demands, "ring_fault"): {"ring": demands.DemandRing((1, 3))},
    (evenness, "walk_places"): {"steps": ((2, "back"), (0, "forward"))}, (evenness, "walk_sum"): {"steps": ((2, "back"),)},
    (evenness, "walk_fault"): {"walk": evenness.BadWalk(((2, "back"), (2, "forward")))},
    (leastmeters, "leads_between"): {"highs": (9, 9, 9, 9)},
    (leastmeters, "pinch_fault"): {"highs": (9, 9, 9, 9), "pinch": leastmeters.Pinch(2, ((2, "back"),))},
    (placelots, "place_walk_fault"): {"steps": ((0, "forward"), (1, "side", 3), (2, "back"))},
    (workmeters, "meter_from_leads"): {"leads": ((2, 3), (9, 4, 7))},
    (workleast, "check_work_lot"): {"lot": WORK_LOT}, (workleast, "least_even_works"): {"lot": WORK_LOT},
    (workleast, "work_walk_fault"): {"lot": WORK_LOT, "walk": workleast.WorkWalk(((("arrow", 0, 0), "forward"),))},
    (workleast, "even_works_fault"): {
        "lot": WORK_LOT, "even": workleast.least_even_works(sample_works(), WORK_LOT)},
    (flatworks, "flat_lot"): {"lot": WORK_LOT}, (flatworks, "steps_of_run"): {"run": (3, 2, 5, 0)},
    (workpaces, "two_paced_works"): {"gates": ((2, 3), (9, 1, 4))},
    (workpaces, "find_work_parting"): {"gates": ((2, 3), (9, 1, 4))},
    (pricelimits, "limit_fault"): {
        "kindchart": sample_kinds(), "lot": (2,),
        "limit": pricelimits.Limit((0, 2), ((2, "forward"), (1, "back"), (0, "back")))},
    (copying, "copied"): {"place": 0}, (copying, "lead_back"): {"run": (0, 1, 5)},
    (sharing, "unused_fault"): {"told": sharing.Unused(9, 1, None, ((), None), 11)},
    (sharing, "turns_fault"): {"told": sharing.Turns(12, (0,))},
    (bench, "in_trial"): {"bench": Bench(example()), "work": lambda held: held.even_now()}}
# Modules whose parameter "meter" is a meter of works.
WORK_MODULES = (workmeters, workpaces, flatworks)
# Steps of walks are tuples and no lists.
WALKS = (evenness, placelots)


def arguments_for(module, name, wanted):
    """An argument for each parameter of a function, by name; those behind a star and an equals sign among them."""
    own = OWN.get((module, name), {})
    found = {}
    for parameter in wanted:
        plain = parameter.split("=")[0]
        if plain == "*":
            continue
        found[plain] = own.get(plain, USUAL[plain] if plain in USUAL and plain not in own else None)
        if plain == "meter" and module in WORK_MODULES:
            found[plain] = work_meter()
    return found


def listed_deep(value):
    """The value with lists in the place of all tuples."""
    return [listed_deep(item) for item in value] if isinstance(value, tuple) else value


def call(work, given):
    found = work(**given)
    return list(found) if inspect.isgenerator(found) else found


def shown(value):
    """A value that may hold charts, meters and results, as plain tuples and dicts with the names of classes."""
    if isinstance(value, (list, tuple)):
        return type(value)(shown(item) for item in value)
    if isinstance(value, dict):
        return {key: shown(item) for key, item in value.items()}
    if hasattr(value, "__dict__"):
        return type(value).__name__, {name: shown(item) for name, item in vars(value).items()}
    return value


def holds_list(value):
    """Whether a list, a dict or a set is in a value, however deep, also in attributes."""
    if isinstance(value, (list, dict, set)):
        return True
    if isinstance(value, tuple):
        return any(holds_list(item) for item in value)
    return hasattr(value, "__dict__") and any(holds_list(item) for item in vars(value).values())


def all_calls():
    for module, text in FUNCTIONS.items():
        for name, wanted in listed(text):
            yield module, name, vars(module)[name], arguments_for(module, name, wanted)


class WholeProgram(unittest.TestCase):
    def test_asked_twice(self):
        """Each function answers the same again, changes nothing that it is passed, and returns tuples throughout."""
        called = 0
        for module, name, work, given in all_calls():
            with self.subTest(function=name, module=module.__name__):
                before = copy.deepcopy(shown(given))
                first = call(work, given)
                self.assertEqual(shown(call(work, given)), shown(first))
                self.assertEqual(shown(given), before)
                items = first if inspect.isgeneratorfunction(work) else [first]
                self.assertFalse(any(holds_list(item) for item in items))
                called += 1
        self.assertGreater(called, 170)

    def test_lists(self):
        """Lists in the place of tuples, also inside, are taken alike and stay as they were."""
        for module, name, work, given in all_calls():
            lists = {key: value if key == "steps" and module in WALKS else listed_deep(value) for key, value in given.items()}
            with self.subTest(function=name, module=module.__name__):
                before = copy.deepcopy(shown(lists))
                found = call(work, lists)
                self.assertEqual(shown(lists), before)
                self.assertEqual(shown(found), shown(call(work, given)))
                items = found if inspect.isgeneratorfunction(work) else [found]
                self.assertFalse(any(holds_list(item) for item in items))

    def test_lists_are_not_kept(self):
        """What was returned stays as it was when the lists that were passed are emptied."""
        for module, name, work, given in all_calls():
            lists = {key: value if key == "steps" and module in WALKS else listed_deep(value) for key, value in given.items()}
            with self.subTest(function=name, module=module.__name__):
                found = call(work, lists)
                before = copy.deepcopy(shown(found))
                for value in lists.values():
                    if isinstance(value, list):
                        for item in value:
                            if isinstance(item, list):
                                item.clear()
                        value.clear()
                self.assertEqual(shown(found), before)

    def test_equal_charts_and_meters(self):
        alike = [(example(), Chart([2, 3, 4, 1], [[0, 1], [1, 0], [0, 2], [2, 0], [0, 3]])),
                 (example_meter(), Meter(example(), 6, [0, 5, 0, 6, 0])), (sample_works(), sample_works()),
                 (work_meter(), work_meter()), (sample_kinds(), sample_kinds()), (kind_meter(), kind_meter())]
        for one, other in alike:
            self.assertTrue(one == other and not one != other)
        things = [one for one, _ in alike] + [ring_kinds(), example_meter(7), None, (), 0]
        for at, one in enumerate(things):
            for also, other in enumerate(things):
                self.assertEqual(one == other, at == also)

    def test_only_these_change(self):
        """Methods of what does not change leave all attributes as they are."""
        chart, meter, kinds_meter, works_meter = example(), example_meter(), kind_meter(), work_meter()
        before = [copy.deepcopy(shown(thing)) for thing in (chart, meter, kinds_meter, works_meter)]
        chart.outs(0), chart.into(0), chart.ends, len(chart), list(chart)
        meter.charged([0]), meter.lead_ahead([0]), meter.lead_behind([0]), meter.with_first(9), meter.with_charge(0, 9)
        meter.charged_arrows, meter + meter, Meter.plain(chart)
        kinds_meter.charged([0]), kinds_meter.of_kind(1), kinds_meter.at_prices([1, 1]), kinds_meter.charged_arrows
        works_meter.charged([["call"]]), works_meter.lead_behind([]), works_meter.charged_marks
        self.assertEqual([shown(thing) for thing in (chart, meter, kinds_meter, works_meter)], before)

    def test_what_changes_keeps_what_it_is_given(self):
        """A Purse, Lanes, a Watch and a Bench leave the meters and charts that they were given as they were."""
        meter, chart = example_meter(), example()
        purse, lanes, watch, table = Purse(meter, 20), Lanes([meter, meter], 20), Watch(meter), Bench(chart, [1])
        purse.take(0), purse.fill(3)
        lanes.begin(0), lanes.take(0, 2), lanes.fork(0), lanes.close(2)
        watch.see(6), watch.see(5), watch.take_back()
        table.change(["cost", 0, 9]), table.change(["add", 0, 3]), table.take_back()
        self.assertEqual((meter, chart), (example_meter(), example()))
        self.assertEqual(Bench(chart, [1]).chart, example())


if __name__ == "__main__":
    unittest.main()
