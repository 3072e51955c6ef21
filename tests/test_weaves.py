"""[9.6] and [9.7]: rows of deeds, lane runs and their weaves."""

import random
import time
import unittest
from itertools import islice
from math import factorial

from helping import NO_NUMBERS, NO_SEQUENCES, WRONG_LIMITS, Raises, dense, example, example_meter, is_deep_tuple, loop
from helping import plain_runs, plain_weaves, runs_up_to, some_metered, sources, uncovered, uneven
from purseahead.charts import Chart
from purseahead.errors import BadDeeds, BadLaneRuns, BadLanes, BadLimit, MeterError, NotMetered, Refused
from purseahead.lanes import Lanes
from purseahead.meters import Meter
from purseahead.weaves import Woven, all_weaves, check_lane_runs, count_weaves, weave_run

NO_DEEDS = (None, 7, "begin", (), ("begin",), ("begin", 0, 0), ("take", 0), ("take", 0, 0, 0), ("fork",), ("fork", 0, 0),
            ("close", 0, 0), ("Begin", 0), ("end", 0), (0, "begin"), (None, 0), (["begin"], 0), ("take", None), {"begin": 0},
            ("begin", True), ("begin", 2), ("begin", -1), ("begin", None), ("close", 1), ("take", 0, 3), ("take", 0, 9),
            ("take", 0, True), ("take", 1, 0), ("fork", 1), ("begin", 0), b"be", ("takes", 0, 0), ("fork", "0"))


def do_plainly(lanes, deed):
    return getattr(lanes, deed[0])(*deed[1:])


def plain_weave(meters, limit, deeds):
    """The Woven of deeds, or the index of the first bad one, by lanes and their errors."""
    lanes = Lanes(meters, limit)
    for index, deed in enumerate(deeds):
        try:
            do_plainly(lanes, deed)
        except Refused:
            return Woven(index, deed[1], lanes.purse, lanes.used)
        except MeterError:
            return index
    return Woven(len(deeds), None, lanes.purse, lanes.used)


class WeaveRuns(Raises, unittest.TestCase):
    def test_example(self):
        meters = [example_meter()] * 2
        deeds = [("begin", 0), ["begin", 1], ("take", 0, 2), ("take", 0, 3), ("nothing",)]
        self.assertEqual(weave_run(meters, 14, deeds), Woven(3, 0, 2, 8))
        deeds[3:] = [("close", 1), ("take", 0, 3)]
        self.assertEqual(weave_run(tuple(meters), 14, tuple(deeds)), Woven(5, None, 0, 10))
        self.assertEqual(weave_run(meters, 14, ()), Woven(0, None, 14, 0))
        self.assertEqual(weave_run(meters, 5, [("begin", 1)]), Woven(0, 1, 5, 0))
        self.assertEqual(weave_run(meters, 10, [("begin", 1), ("fork", 1), ("fork", 2)]), Woven(2, 2, 0, 2))

    def test_any_deeds(self):
        woven = bad = refused = 0
        meters = some_metered(30, most_places=3, most_arrows=5, most_cost=3)
        for at in range(400):
            source = random.Random(at)
            grounds = [source.choice(meters) for _ in range(source.randint(1, 3))]
            deeds = [("begin", 0)]
            for _ in range(source.randint(0, 8)):
                kind = source.choice(("begin", "take", "take", "fork", "close"))
                deed = (kind, source.randrange(3)) + ((source.randrange(3),) if kind == "take" else ())
                if isinstance(plain_weave(grounds, 10 ** 6, deeds + [deed]), Woven) or source.random() < 0.1:
                    deeds.append(deed)
            limit = source.randint(0, 20)
            told = plain_weave(grounds, limit, deeds)
            if isinstance(told, int):
                bad += 1
                self.refuses(BadDeeds, {"index": told}, weave_run, grounds, limit, deeds)
            else:
                woven += told.refused is None
                refused += told.refused is not None
                self.assertEqual(weave_run(grounds, limit, deeds), told)
        self.assertTrue(woven > 50 and refused > 50 and bad > 30, (woven, refused, bad))

    def test_many_deeds(self):
        meter = Meter(loop(), 1, [1])
        deeds = [("begin", 0)] + [("take", 0, 0)] * 199
        self.assertEqual(weave_run([meter], 200, deeds), Woven(200, None, 0, 200))
        self.assertEqual(weave_run([meter], 199, deeds), Woven(199, 0, 0, 199))
        self.refuses(BadDeeds, {"index": 0}, weave_run, [meter], 200, deeds + [("close", 0)])
        self.refuses(BadDeeds, {"index": 0}, weave_run, [meter], 0, deeds + [("close", 0)])
        self.refuses(BadDeeds, {"index": 7}, weave_run, [meter], 200, [*deeds[:7], ("begin", 0), None])

    def test_too_many_lanes(self):
        deeds = [("begin", 0)] + [("fork", 0)] * 5
        self.assertEqual(weave_run([example_meter()], 99, deeds).done, 6)
        self.refuses(BadDeeds, {"index": 6}, weave_run, [example_meter()], 99, deeds + [("fork", 0)])

    def test_bad_deeds(self):
        meters = [example_meter()] * 2
        for wrong in NO_SEQUENCES:
            self.refuses(BadDeeds, {"index": 0}, weave_run, meters, 99, wrong)
        for wrong in NO_DEEDS:
            self.refuses(BadDeeds, {"index": 1}, weave_run, meters, 99, [("begin", 0), wrong, None])
            # Behind a refused deed nothing is looked at.
            self.assertEqual(weave_run(meters, 5, [("begin", 0), wrong]), Woven(0, 0, 5, 0))

    def test_bad_meters(self):
        for wrong in (*NO_SEQUENCES, (), [example_meter()] * 4):
            self.refuses(BadLanes, {"what": "meters", "index": 0}, weave_run, wrong, None, None)
        self.refuses(BadLanes, {"what": "meter", "index": 1}, weave_run, [uneven(), 1], None, None)
        self.refuses(NotMetered, {"what": "even"}, weave_run, [uneven(), uncovered()], None, None)
        self.refuses(NotMetered, {"what": "covered"}, weave_run, [uncovered()], None, None)
        for wrong in WRONG_LIMITS:
            self.refuses(BadLimit, {"limit": wrong}, weave_run, [example_meter()], wrong, None)

    def test_arguments_stay(self):
        meters, deeds = [example_meter()], [["begin", 0], ["take", 0, 2]]
        weave_run(meters, 9, deeds)
        self.assertEqual((meters, deeds), ([example_meter()], [["begin", 0], ["take", 0, 2]]))


class LaneRuns(Raises, unittest.TestCase):
    def works(self):
        return (check_lane_runs, all_weaves, count_weaves)

    def test_taken(self):
        meters = [example_meter(), Meter(loop(), 1, [1]), example_meter()]
        found = check_lane_runs(meters, [[0, 1], None, ()])
        self.assertEqual(found, ((0, 1), None, ()))
        self.assertTrue(is_deep_tuple(found))
        self.assertEqual(check_lane_runs(meters, (None, [0] * 40, None)), (None, (0,) * 40, None))
        self.assertEqual(check_lane_runs([example_meter()], [None]), (None,))

    def test_refused(self):
        meters = [example_meter(), Meter(loop(), 1, [1])]
        for work in self.works():
            for wrong in (*NO_SEQUENCES, (), [()], [(), (), ()]):
                self.refuses(BadLaneRuns, {"lane": 0}, work, meters, wrong)
            for wrong in (7, True, "0", {}, {0}, (1,), [0, 0], (True,), (0, 1, 9), [None], (0, 1) * 20 + (0,)):
                self.refuses(BadLaneRuns, {"lane": 0}, work, meters, [wrong, 7])
                self.refuses(BadLaneRuns, {"lane": 1}, work, [meters[1], meters[0]], (None, wrong))
            self.refuses(BadLaneRuns, {"lane": 1}, work, meters, [(), (0,) * 41])
            for wrong in (*NO_SEQUENCES, (), [example_meter()] * 4):
                self.refuses(BadLanes, {"what": "meters", "index": 0}, work, wrong, None)
            self.refuses(BadLanes, {"what": "meter", "index": 2}, work, [uneven(), uncovered(), *NO_NUMBERS[:1]], None)
            self.refuses(NotMetered, {"what": "covered"}, work, [example_meter(), uncovered(), uneven()], None)
            self.refuses(NotMetered, {"what": "even"}, work, [uneven()], None)

    def test_arguments_stay(self):
        meters, runs = [example_meter()] * 2, [[0, 1], [2]]
        list(all_weaves(meters, runs))
        count_weaves(meters, runs)
        self.assertEqual((meters, runs), ([example_meter()] * 2, [[0, 1], [2]]))


class Weaves(unittest.TestCase):
    def check(self, meters, runs):
        told = plain_weaves(runs)
        found = list(all_weaves(meters, list(runs)))
        self.assertEqual(found, told)
        self.assertEqual(count_weaves(meters, runs), len(told))
        self.assertTrue(is_deep_tuple(tuple(found)))
        rows = [[deed[1] for deed in weave] for weave in found]
        self.assertEqual(rows, sorted(rows))
        self.assertEqual(len(set(found)), len(found))

    def test_few(self):
        meters = [example_meter()] * 2
        self.assertEqual(list(all_weaves(meters, [None, None])), [()])
        self.assertEqual(count_weaves(meters, (None, None)), 1)
        self.assertEqual(list(all_weaves(meters, [(0,), ()])), [
            (("begin", 0), ("take", 0, 0), ("begin", 1)), (("begin", 0), ("begin", 1), ("take", 0, 0)),
            (("begin", 1), ("begin", 0), ("take", 0, 0))])

    def test_all_orders(self):
        runs = [None, *runs_up_to(example(), 2)]
        for source in sources(40):
            number = source.randint(1, 3)
            self.check([example_meter()] * number, [source.choice(runs) for _ in range(number)])
        self.check([example_meter()], [plain_runs(example(), 4)[3]])
        self.check([Meter(Chart([1], []), 3, [])] * 3, [(), (), ()])

    def test_longest(self):
        meters = [Meter.plain(dense())] * 3
        runs = [next(iter(islice(self.runs(), at, None))) for at in (0, 1, 2)]
        before = time.perf_counter()
        self.assertEqual(count_weaves(meters, runs), factorial(123) // factorial(41) ** 3)
        self.assertLess(time.perf_counter() - before, 5)
        self.assertEqual(count_weaves(meters, [runs[0], None, runs[1]]), factorial(82) // factorial(41) ** 2)
        # The first weaves come at once: each lane whole, ahead of the next one.
        first = next(iter(all_weaves(meters, runs)))
        self.assertEqual([deed[1] for deed in first], [0] * 41 + [1] * 41 + [2] * 41)
        self.assertEqual([deed[2] for deed in first if deed[0] == "take"], [arrow for run in runs for arrow in run])

    def runs(self):
        """Runs of 40 arrows of the dense chart: by its first arrows, by its second ones, by each in turn."""
        for kinds in ((0,), (1,), (0, 1)):
            place, run = 0, []
            for at in range(40):
                arrow = dense().outs(place)[kinds[at % len(kinds)]]
                run.append(arrow)
                place = dense().arrows[arrow][1]
            yield tuple(run)


if __name__ == "__main__":
    unittest.main()
