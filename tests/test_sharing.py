"""[9.8] to [9.11]: refusals of lanes for all weaves, the greatest unused at a refusal, and whole turns."""

import time
import unittest
from functools import lru_cache
from itertools import permutations

from helping import NO_NUMBERS, NO_SEQUENCES, WRONG_LIMITS, Raises, dense, deeds_of, example, example_meter
from helping import is_deep_tuple, line, loop, plain_weaves, runs_up_to, some_metered, sources, uncovered, uneven
from purseahead.charts import Chart
from purseahead.errors import BadLaneRuns, BadLanes, BadLimit, NotMetered, Refused
from purseahead.lanes import Lanes
from purseahead.leastmeters import meter_of
from purseahead.meters import Meter
from purseahead.sharing import Turns, Unused, best_turns, first_refused, limit_of, most_unused, turns_fault, unused_fault
from purseahead.stops import good_leads
from purseahead.weaves import weave_run

EXAMPLES = [example_meter()] * 2


def free_meter():
    """A meter that charges nothing."""
    return Meter(Chart([0, 0], [(0, 1), (1, 0)]), 0, [0, 0])


def some_lane_runs(count, most_deeds):
    """Meters with runs on them, or None, of few deeds in all."""
    meters = some_metered(60, most_places=3, most_arrows=4, most_cost=3)
    found = []
    for source in sources(count):
        grounds = [source.choice(meters) for _ in range(source.randint(1, 3))]
        runs, left = [], most_deeds
        for meter in grounds:
            fitting = [None, *[run for run in runs_up_to(meter.chart, 3) if len(run) < left]]
            runs.append(source.choice(fitting))
            left -= len(deeds_of(0, runs[-1]))
        found.append((grounds, runs))
    return found


def all_charges(meters, runs):
    return sum(meter.charged(run) for meter, run in zip(meters, runs) if run is not None)


class Limits(Raises, unittest.TestCase):
    def test_example(self):
        self.assertEqual(limit_of(EXAMPLES, [(2, 3), (0, 1)]), 6 + 6 + 6 + 5)
        self.assertEqual(limit_of(EXAMPLES, (None, [4])), 6)
        self.assertEqual(limit_of(EXAMPLES, (None, None)), 0)
        self.assertEqual(limit_of([example_meter()], ((),)), 6)

    def test_all_weaves(self):
        """Each weave with every limit at which something changes, and one less."""
        lone = 0
        for meters, runs in some_lane_runs(80, 7):
            weaves = plain_weaves(runs)
            least = limit_of(meters, list(runs))
            self.assertEqual(least, all_charges(meters, runs))
            for limit in range(least + 2):
                met = set()
                for weave in weaves:
                    woven = weave_run(meters, limit, weave)
                    if woven.refused is not None:
                        done = weave[:woven.done]
                        met.add((woven.refused, sum(deed[1] == woven.refused for deed in done)))
                        lone += 1
                    self.assertEqual(woven.refused is None, limit >= least)
                found = first_refused(meters, list(runs), limit)
                self.assertEqual(found, tuple(sorted(met)))
                self.assertTrue(is_deep_tuple(found))
        self.assertGreater(lone, 1000)

    def test_first_refused(self):
        # With limit 14 both begins are paid whatever comes first, then 2 are left.
        self.assertEqual(first_refused(EXAMPLES, [(2, 3), (0, 1)], 14), ((0, 0), (0, 2), (1, 0), (1, 2)))
        self.assertEqual(first_refused(EXAMPLES, [(2, 3), (0, 1)], 23), ())
        self.assertEqual(first_refused(EXAMPLES, [(2, 3), (0, 1)], 22), ((0, 2), (1, 2)))
        self.assertEqual(first_refused(EXAMPLES, [(2, 3), None], 5), ((0, 0),))
        self.assertEqual(first_refused(EXAMPLES, [None, (2, 3)], 11), ((1, 2),))
        self.assertEqual(first_refused(EXAMPLES, [None, None], 0), ())
        self.assertEqual(first_refused([free_meter()], [(0, 1)], 0), ())

    def test_longest(self):
        meter = Meter(loop(), 10 ** 12, [1])
        longest = [(0,) * 40] * 3
        self.assertEqual(limit_of([meter] * 3, longest), 3 * (10 ** 12 + 40))
        before = time.perf_counter()
        found = first_refused([meter] * 3, longest, 3 * 10 ** 12 + 119)
        self.assertEqual(found, tuple((lane, 40) for lane in range(3)))
        self.assertEqual(len(first_refused([meter] * 3, longest, 3 * 10 ** 12)), 3 * 2)
        self.assertEqual(len(first_refused([meter] * 3, longest, 3 * 10 ** 12 + 60)), 3 * 41)
        self.assertLess(time.perf_counter() - before, 20)
        for work in (lambda meters, runs: first_refused(meters, runs, 0), limit_of, best_turns):
            self.refuses(BadLaneRuns, {"lane": 2}, work, [meter] * 3, [(0,) * 40, (0,) * 40, (0,) * 41])

    def test_refused(self):
        judge = lambda meters, runs: turns_fault(meters, runs, None)
        refused = lambda meters, runs: first_refused(meters, runs, None)
        for work in (limit_of, refused, best_turns, judge):
            for wrong in (*NO_SEQUENCES, (), [example_meter()] * 4):
                self.refuses(BadLanes, {"what": "meters", "index": 0}, work, wrong, None)
            self.refuses(BadLanes, {"what": "meter", "index": 1}, work, [uneven(), 7], None)
            self.refuses(NotMetered, {"what": "even"}, work, [uneven(), uncovered()], None)
            self.refuses(NotMetered, {"what": "covered"}, work, [uncovered(), uneven()], None)
            for wrong in (*NO_SEQUENCES, (), [()], [(), (), ()]):
                self.refuses(BadLaneRuns, {"lane": 0}, work, EXAMPLES, wrong)
            for wrong in (7, True, "0", {}, (1,), [0, 0], (True,), [None]):
                self.refuses(BadLaneRuns, {"lane": 0}, work, EXAMPLES, [wrong, 7])
                self.refuses(BadLaneRuns, {"lane": 1}, work, EXAMPLES, (None, wrong))
        for wrong in WRONG_LIMITS:
            self.refuses(BadLimit, {"limit": wrong}, first_refused, EXAMPLES, [None, ()], wrong)
        self.assertEqual(first_refused(EXAMPLES, [(), ()], 10 ** 15), ())

    def test_arguments_stay(self):
        meters, runs = list(EXAMPLES), [[2, 3], [0, 1]]
        limit_of(meters, runs)
        first_refused(meters, runs, 14)
        best_turns(meters, runs)
        self.assertEqual((meters, runs), (EXAMPLES, [[2, 3], [0, 1]]))


def met_at_refusals(meters, limit):
    """Every number that is unused when some deed but a fork is refused, with this limit."""
    behinds = [[lead - cost for lead, cost in zip(good_leads(meter), meter.chart.costs)] for meter in meters]
    start = ((None,) * len(meters), limit)
    seen, waiting, met = {start}, [start], set()
    while waiting:
        places, purse = waiting.pop()
        held = sum(behinds[lane][place] for lane, place in enumerate(places) if type(place) is int)
        nexts = []
        for lane, place in enumerate(places):
            meter = meters[lane]
            if place is None:
                nexts.append((lane, 0, meter.first))
            elif place != "closed":
                nexts.append((lane, "closed", -behinds[lane][place]))
                nexts.extend((lane, meter.chart.arrows[arrow][1], meter.charges[arrow])
                             for arrow in meter.chart.outs(place))
        for lane, place, charge in nexts:
            if charge > purse:
                met.add(purse + held)
                continue
            state = (places[:lane] + (place,) + places[lane + 1:], purse - charge)
            if state not in seen:
                seen.add(state)
                waiting.append(state)
    return met


def go_and_be_refused(case, meters, told):
    """Go the runs of an Unused and check the refusal; return what is unused then."""
    lanes = Lanes(meters, told.limit)
    for lane, run in enumerate(told.runs):
        for deed in deeds_of(lane, run):
            getattr(lanes, deed[0])(*deed[1:])
    with case.assertRaises(Refused):
        lanes.begin(told.lane) if told.arrow is None else lanes.take(told.lane, told.arrow)
    return lanes.unused


class MostUnused(Raises, unittest.TestCase):
    def test_example(self):
        found = most_unused(EXAMPLES)
        self.assertEqual(found.unused, 9)
        self.assertEqual(go_and_be_refused(self, EXAMPLES, found), 9)
        self.assertIsNone(unused_fault(EXAMPLES, found))
        self.assertEqual(most_unused([example_meter()]).unused, 5)
        self.assertEqual(most_unused([example_meter()] * 3).unused, 13)

    def test_nothing_is_charged(self):
        self.assertIsNone(most_unused([free_meter()]))
        self.assertIsNone(most_unused([free_meter()] * 3))
        self.assertEqual(most_unused([free_meter(), Meter(Chart([0], []), 1, [])]).unused, 0)
        self.assertEqual(most_unused([free_meter(), Meter(Chart([0], []), 1, [])]).lane, 1)
        # Only an arrow charges.
        late = Meter(Chart([0, 5], [(0, 1)]), 0, [5])
        self.assertEqual(most_unused([late]), Unused(4, 0, 0, ((),), 4))
        self.assertEqual(most_unused([free_meter(), late]).arrow, 0)

    def test_all_limits_and_deeds(self):
        arrows = set()
        meters = some_metered(60, most_places=3, most_arrows=3, most_cost=2)
        meters = [meter for meter in meters if max(meter.first, *meter.charges, 0) < 6]
        for source in sources(60):
            grounds = [source.choice(meters) for _ in range(source.randint(1, 2))]
            found = most_unused(list(grounds))
            met = set().union(*[met_at_refusals(grounds, limit) for limit in range(12)])
            if found is None:
                self.assertEqual(met, set())
                continue
            arrows.add(found.arrow is None)
            self.assertIsNone(unused_fault(grounds, found))
            self.assertEqual(go_and_be_refused(self, grounds, found), found.unused)
            self.assertTrue(is_deep_tuple(found.runs))
            self.assertLessEqual(max(met), found.unused)
            if found.limit < 12:
                self.assertEqual(max(met), found.unused)
        self.assertEqual(arrows, {True, False})

    def test_largest(self):
        meter = Meter.plain(dense())
        much = meter_of(dense(), [cost + 10 ** 11 for cost in dense().costs])
        for meters in ([meter] * 3, [much] * 3, [much, meter, much]):
            found = most_unused(meters)
            self.assertIsNone(unused_fault(meters, found))
            self.assertEqual(go_and_be_refused(self, meters, found), found.unused)

    def test_refused(self):
        for work in (most_unused, lambda meters: unused_fault(meters, None)):
            for wrong in (*NO_SEQUENCES, (), [example_meter()] * 4):
                self.refuses(BadLanes, {"what": "meters", "index": 0}, work, wrong)
            self.refuses(BadLanes, {"what": "meter", "index": 1}, work, [uneven(), 7])
            self.refuses(NotMetered, {"what": "even"}, work, [uneven(), uncovered()])
            self.refuses(NotMetered, {"what": "covered"}, work, [uncovered(), uneven()])


class UnusedFaults(unittest.TestCase):
    def judge(self, unused=9, lane=1, arrow=None, runs=((), None), limit=11, meters=EXAMPLES):
        return unused_fault(meters, Unused(unused, lane, arrow, runs, limit))

    def test_right(self):
        self.assertIsNone(self.judge())
        self.assertIsNone(self.judge(runs=[[], None]))
        self.assertIsNone(self.judge(lane=0, runs=(None, ())))
        self.assertIsNone(self.judge(runs=((0, 1), None), limit=16))
        # Refused at arrow 3, which leads to place 0, too; the other lane stands at place 0.
        self.assertIsNone(self.judge(arrow=3, runs=((), (2,)), limit=17))

    def test_lane(self):
        for lane in (-1, 2, 3, *NO_NUMBERS):
            self.assertEqual(self.judge(lane=lane, runs=None), "lane")

    def test_runs(self):
        for runs in (*NO_SEQUENCES, (), ((),), ((), None, None), ((1,), None), ((True,), None), (7, None), ((0, 0), None),
                     ((0, 1) * 20 + (0,), None)):
            self.assertEqual(self.judge(runs=runs, arrow=99), "runs")
        self.assertEqual(self.judge(runs=((), ())), "runs")
        self.assertEqual(self.judge(runs=((), None), arrow=3), "runs")
        self.assertEqual(self.judge(runs=((), None), arrow=True, limit=None), "runs")

    def test_arrow(self):
        for arrow in (-1, 5, 0, 2, 1, 4, True, False, "3", (3,), 3.0):
            self.assertEqual(self.judge(arrow=arrow, runs=((), (2,)), limit=None), "arrow")
        # Arrow 4 leaves place 0, but charges nothing; arrow 1 leaves another place.
        self.assertEqual(self.judge(arrow=4, runs=((), ()), limit=None), "arrow")
        self.assertEqual(self.judge(arrow=1, runs=((), ()), limit=None), "arrow")
        late = Meter(Chart([0, 5], [(0, 1)]), 0, [5])
        self.assertEqual(self.judge(lane=0, runs=(None,), meters=[late], limit=None), "arrow")
        self.assertIsNone(self.judge(4, 0, 0, ((),), 4, [late]))

    def test_limit(self):
        for limit in (-1, 10 ** 15 + 1, 5, 12, 0, True, None, "11", 11.0, (11,)):
            self.assertEqual(self.judge(limit=limit, unused=None), "limit")
        for limit in (6, 10):
            self.assertEqual(self.judge(limit=limit), "unused")
        # A run of the other lane is refused with less than what it charges.
        self.assertEqual(self.judge(runs=((0, 1), None), limit=10, unused=None), "limit")
        self.assertEqual(self.judge(runs=((0, 1), None), limit=17, unused=None), "limit")
        one = Meter(Chart([1], []), 1, [])
        self.assertEqual(self.judge(0, 0, None, (None,), False, [one]), "limit")
        self.assertIsNone(self.judge(0, 0, None, (None,), 0, [one]))

    def test_unused(self):
        for unused in (8, 10, 0, -1, None, "9", True, (9,)):
            self.assertEqual(self.judge(unused=unused), "unused")
        one = Meter(Chart([1], []), 1, [])
        self.assertEqual(self.judge(False, 0, None, (None,), 0, [one]), "unused")
        two = Meter(Chart([1], []), 2, [])
        self.assertEqual(self.judge(True, 0, None, (None,), 1, [two]), "unused")
        self.assertIsNone(self.judge(1, 0, None, (None,), 1, [two]))

    def test_most(self):
        self.assertEqual(self.judge(8, limit=10), "most")
        self.assertEqual(self.judge(4, limit=6), "most")
        self.assertEqual(self.judge(5, 1, None, (None, None), 5), "most")
        self.assertEqual(self.judge(5, 1, None, ((2,), None), 11), "most")

    def test_largest_limit(self):
        # What is refused is a limit as in part 5, however much the runs charge.
        meter = Meter(Chart([0, 0], [(0, 1), (1, 0)]), 10 ** 12, [0, 0])
        self.assertIsNone(self.judge(10 ** 12 - 1, 0, None, (None,), 10 ** 12 - 1, [meter]))


def limit_of_order(meters, runs, order):
    """The least limit for whole turns in this order, by trying them out on lanes."""
    limit = 0
    while True:
        lanes = Lanes(meters, limit)
        try:
            for lane in order:
                for deed in [*deeds_of(lane, runs[lane]), ("close", lane)]:
                    getattr(lanes, deed[0])(*deed[1:])
            return limit
        except Refused:
            limit += 1


def least_mixed(meters, runs):
    """The least limit with which some order of the deeds, each lane closing behind its run, has no refusal."""
    rows = []
    for meter, run in zip(meters, runs):
        row = [] if run is None else [meter.first, *[meter.charges[arrow] for arrow in run], -meter.lead_behind(run)]
        rows.append(row)

    @lru_cache(maxsize=None)
    def needed(done):
        open_lanes = [lane for lane, row in enumerate(rows) if done[lane] < len(row)]
        if not open_lanes:
            return 0
        ways = []
        for lane in open_lanes:
            charge = rows[lane][done[lane]]
            further = done[:lane] + (done[lane] + 1,) + done[lane + 1:]
            ways.append(max(0, charge, charge + needed(further)))
        return min(ways)

    return needed((0,) * len(rows))


class WholeTurns(unittest.TestCase):
    def test_example(self):
        runs = [(2,), (4,)]
        self.assertEqual(best_turns(EXAMPLES, runs), Turns(9, (1, 0)))
        self.assertEqual(turns_fault(EXAMPLES, runs, Turns(9, (1, 0))), None)
        self.assertEqual(turns_fault(EXAMPLES, runs, Turns(12, (0, 1))), "least")
        self.assertEqual(best_turns(EXAMPLES, [None, None]), Turns(0, ()))
        self.assertEqual(best_turns(EXAMPLES, [None, [4]]), Turns(6, (1,)))
        # Lanes with like leads behind ascend.
        self.assertEqual(best_turns([example_meter()] * 3, [(0, 1), (2, 3), ()]).order, (0, 1, 2))
        self.assertEqual(best_turns([example_meter()] * 3, [(4,), (), (2,)]).order, (1, 0, 2))

    def test_all_orders(self):
        unlike = 0
        for meters, runs in some_lane_runs(150, 9):
            found = best_turns(list(meters), list(runs))
            lanes = [lane for lane, run in enumerate(runs) if run is not None]
            behind = {lane: meters[lane].lead_behind(runs[lane]) for lane in lanes}
            self.assertEqual(found.order, tuple(sorted(lanes, key=lambda lane: (-behind[lane], lane))))
            limits = {order: limit_of_order(meters, runs, order) for order in permutations(lanes)}
            unlike += len(set(limits.values())) > 1
            self.assertEqual(found.limit, limits[found.order])
            self.assertEqual(found.limit, min(limits.values()))
            self.assertEqual(found.limit, least_mixed(meters, runs))
            for order, limit in limits.items():
                word = None if limit == found.limit else "least"
                self.assertEqual(turns_fault(meters, runs, Turns(limit, order)), word)
                self.assertEqual(turns_fault(meters, runs, Turns(limit + 1, order)), "limit")
                self.assertEqual(turns_fault(meters, runs, Turns(limit - 1, order)), "limit")
        self.assertGreater(unlike, 30)

    def judge(self, limit, order, runs=((2,), (4,)), meters=EXAMPLES):
        return turns_fault(meters, runs, Turns(limit, order))

    def test_order(self):
        for order in ([1, 0], None, (), (1,), (1, 1), (0, 1, 2), (True, 0), (1, False), ("1", 0), (1, None), (2, 0), (-1, 0), 1):
            self.assertEqual(self.judge(None, order), "order")
        self.assertEqual(self.judge(6, (0,), (None, (4,))), "order")
        self.assertEqual(self.judge(6, (1, 0), (None, (4,))), "order")
        self.assertIsNone(self.judge(6, (1,), (None, [4])))
        self.assertIsNone(self.judge(0, (), (None, None)))

    def test_limit(self):
        for limit in (8, 10, 12, 0, -1, None, "9", True, (9,), 10 ** 20):
            self.assertEqual(self.judge(limit, (1, 0)), "limit")
        for limit in (9, 11, 13):
            self.assertEqual(self.judge(limit, (0, 1)), "limit")
        self.assertEqual(self.judge(False, (), (None, None)), "limit")
        one = [Meter(Chart([1], []), 1, [])]
        self.assertEqual(self.judge(True, (0,), ((),), one), "limit")
        self.assertIsNone(self.judge(1, (0,), ((),), one))

    def test_longest(self):
        meters = [Meter(loop(), 10 ** 12, [1]), Meter(line(2), 10 ** 12, [10 ** 12]), example_meter()]
        found = best_turns(meters, [(0,) * 40, (0,), (0, 1) * 20])
        self.assertEqual(found.order, (1, 0, 2))
        self.assertEqual(found.limit, max(2 * 10 ** 12, 2 + 10 ** 12 + 40, 2 + 41 + meters[2].charged((0, 1) * 20)))
        self.assertEqual(example(), meters[2].chart)


if __name__ == "__main__":
    unittest.main()
