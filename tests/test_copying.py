"""[8.7] to [8.10]: places with a twin, runs and lots that are lifted, and the best copy."""

import unittest

from helping import BAD_LOTS, BAD_RUNS, NO_NUMBERS, Raises, all_lots, dense, example, example_meter, is_deep_tuple
from helping import line, loop, place_subsets, plain_lead, random_chart, random_meter, runs_up_to, sources
from purseahead.charts import Chart
from purseahead.copying import BestCopy, Copy, best_copy, copied, lead_back, lead_run, lifted_lot, lifted_meter
from purseahead.errors import BadCopy, BadLot, BadPlace, BadRun, TooMany, Unlike
from purseahead.evenness import BadWalk, Even
from purseahead.fewest import fewest
from purseahead.leastmeters import least_even
from purseahead.meters import Meter
from purseahead.runs import used_row


def branch():
    """The chart of the document's example in part 8."""
    return Chart((1, 5, 0), ((0, 1), (1, 2), (0, 2)))


def reached_along(count, arrows):
    found = {0}
    for _ in range(count):
        found |= {head for tail, head in arrows if tail in found}
    return found


def plain_copy(chart, place, lot):
    """The costs, arrows and origins of a copy, or what is wrong with it, as the document tells them."""
    if not lot:
        return "empty", 0
    for arrow in lot:
        if chart.arrows[arrow][1] != place:
            return "into", arrow
    if len(chart.costs) == 16:
        return "places", 0
    twin = len(chart.costs)
    arrows = [(tail, twin if at in lot else head) for at, (tail, head) in enumerate(chart.arrows)]
    outs = [at for at, (tail, _) in enumerate(chart.arrows) if tail == place]
    arrows += [(twin, arrows[at][1]) for at in outs]
    if len(arrows) > 32:
        return "arrows", 0
    if place not in reached_along(twin + 1, arrows):
        return "reached", place
    return chart.costs + (chart.costs[place],), tuple(arrows), tuple(range(len(chart.arrows))) + tuple(outs)


def all_copies(chart):
    """Every copy of the chart."""
    return [copied(chart, place, lot) for place in range(len(chart)) for lot in all_lots(chart)
            if len(plain_copy(chart, place, lot)) == 3]


def full(arrows, places=15):
    """A chart of that many places in a row and that many arrows, the last ones from place 0 to place 1."""
    row = [(at, at + 1) for at in range(places - 1)]
    return Chart([1] * places, row + [(0, 1)] * (arrows - len(row)))


class Copied(Raises, unittest.TestCase):
    def test_example(self):
        found = copied(branch(), 2, [2])
        self.assertEqual(found, Copy(branch(), Chart((1, 5, 0, 0), ((0, 1), (1, 2), (0, 3))), 2, (0, 1, 2)))
        self.assertIsInstance(least_even(branch(), ()), BadWalk)
        self.assertEqual(least_even(found.chart, ()).leads, (6, 5, 0, 5))
        self.assertEqual(best_copy(branch(), ()), BestCopy(2, (1,), 6))

    def test_arrows_to_itself(self):
        chart = Chart([1, 2], [(0, 1), (1, 1), (0, 1)])
        # In the lot it leads to the twin, and its copy from the twin to the twin.
        found = copied(chart, 1, (0, 1))
        self.assertEqual((found.chart.arrows, found.origins), (((0, 2), (1, 2), (0, 1), (2, 2)), (0, 1, 2, 1)))
        found = copied(chart, 1, (0,))
        self.assertEqual((found.chart.arrows, found.origins), (((0, 2), (1, 1), (0, 1), (2, 1)), (0, 1, 2, 1)))
        # Place 1 is come to again through its twin alone.
        self.assertEqual(copied(chart, 1, (0, 2)).chart.arrows, ((0, 2), (1, 1), (0, 2), (2, 1)))
        self.refuses(BadCopy, {"what": "reached", "index": 1}, copied, chart, 1, (0, 1, 2))
        self.assertEqual(copied(loop(), 0, (0,)).chart, Chart([1, 1], [(0, 1), (1, 1)]))

    def test_all_lots(self):
        seen = set()
        for source in sources(60):
            chart = random_chart(source, most_places=4, most_arrows=5)
            for place in range(len(chart)):
                for lot in all_lots(chart):
                    told = plain_copy(chart, place, lot)
                    if len(told) == 2:
                        seen.add(told[0])
                        self.refuses(BadCopy, {"what": told[0], "index": told[1]}, copied, chart, place, lot)
                        continue
                    found = copied(chart, place, list(lot))
                    self.assertEqual(found, Copy(chart, Chart(told[0], told[1]), place, told[2]))
                    self.assertTrue(is_deep_tuple(found.origins))
        self.assertEqual(seen, {"empty", "into", "reached"})

    def test_largest(self):
        self.assertEqual(len(copied(full(31), 1, (30,)).chart.arrows), 32)
        self.assertEqual(len(copied(full(31, 14), 1, (30,)).chart), 15)
        self.refuses(BadCopy, {"what": "arrows", "index": 0}, copied, full(32), 1, (31,))
        # The last place has no arrow out, so that no arrow comes on top of the 32.
        end = Chart([1] * 15, [(at, at + 1) for at in range(14)] + [(0, 14)] * 18)
        self.assertEqual((len(copied(end, 14, (31,)).chart), len(copied(end, 14, (31,)).chart.arrows)), (16, 32))
        two = Chart([1] * 3, [(0, 1), (1, 2), (1, 2)] + [(0, 1)] * 28)
        self.refuses(BadCopy, {"what": "arrows", "index": 0}, copied, two, 1, (30,))
        self.refuses(BadCopy, {"what": "places", "index": 0}, copied, full(31, 16), 1, (30,))
        self.refuses(BadCopy, {"what": "places", "index": 0}, copied, line(16), 1, (0,))
        self.refuses(BadCopy, {"what": "places", "index": 0}, copied, dense(), 1, (0,))

    def test_refused(self):
        for wrong in (-1, 4, *NO_NUMBERS):
            self.refuses(BadPlace, {"place": wrong}, copied, example(), wrong, None)
        for index, wrong in BAD_LOTS:
            self.refuses(BadLot, {"index": index}, copied, example(), 0, wrong)
            self.refuses(BadLot, {"index": index}, copied, line(16), 0, wrong)
        self.refuses(BadCopy, {"what": "empty", "index": 0}, copied, line(16), 0, ())
        self.refuses(BadCopy, {"what": "into", "index": 2}, copied, example(), 0, (1, 2, 3, 4))
        self.refuses(BadCopy, {"what": "into", "index": 1}, copied, line(16), 1, (0, 1))
        # Too many arrows are told ahead of a place that could not be reached.
        lone = Chart([1, 1, 1], [(0, 1)] + [(1, 2)] * 31)
        self.refuses(BadCopy, {"what": "arrows", "index": 0}, copied, lone, 1, (0,))
        self.refuses(BadCopy, {"what": "reached", "index": 3}, copied, example(), 3, [4])

    def test_arguments_stay(self):
        chart, lot = branch(), [2]
        found = copied(chart, 2, lot)
        lot.append(3)
        self.assertEqual((chart, found.origins), (branch(), (0, 1, 2)))


class Lifting(Raises, unittest.TestCase):
    def test_runs(self):
        for source in sources(80):
            chart = random_chart(source, most_places=4, most_arrows=5)
            for copy in all_copies(chart):
                for length in range(5):
                    self.check_runs(copy, length)

    def check_runs(self, copy, length):
        old = [run for run in runs_up_to(copy.source, length) if len(run) == length]
        new = [run for run in runs_up_to(copy.chart, length) if len(run) == length]
        self.assertEqual(sorted(lead_run(copy, list(run)) for run in old), sorted(new))
        for run in new:
            back = lead_back(copy, list(run))
            self.assertEqual(back, tuple(copy.origins[arrow] for arrow in run))
            self.assertEqual(lead_run(copy, back), run)
            self.assertEqual(used_row(copy.chart, run), used_row(copy.source, back))

    def test_long_runs(self):
        copy = copied(example(), 0, (1,))
        run = (0, 1, 2, 3) * 100
        self.assertEqual(lead_back(copy, lead_run(copy, run)), run)
        for work in (lead_run, lead_back):
            self.assertIsInstance(work(copy, []), tuple)

    def test_bad_runs(self):
        copy = copied(example(), 0, (1,))
        for index, wrong in BAD_RUNS:
            self.refuses(BadRun, {"index": index}, lead_run, copy, wrong)
            if not (isinstance(wrong, (list, tuple)) and 9 in wrong):
                self.refuses(BadRun, {"index": index}, lead_back, copy, wrong)
        # The new arrows are none of the source, and arrow 1 leads to the twin.
        self.refuses(BadRun, {"index": 2}, lead_run, copy, (0, 1, 5))
        self.refuses(BadRun, {"index": 2}, lead_back, copy, (0, 1, 0))
        self.assertEqual(lead_back(copy, (0, 1, 5)), (0, 1, 0))
        self.refuses(BadRun, {"index": 0}, lead_back, copy, (8,))

    def test_lots(self):
        better = fewer = 0
        for source in sources(80):
            chart = random_chart(source, most_places=4, most_arrows=4)
            for copy in all_copies(chart):
                fewer += fewest(copy.chart).number < fewest(chart).number
                for lot in all_lots(chart):
                    lifted = lifted_lot(copy, list(lot))
                    self.assertEqual(lifted, tuple(at for at, old in enumerate(copy.origins) if old in lot))
                    old, new = least_even(chart, lot), least_even(copy.chart, lifted)
                    better += isinstance(old, BadWalk) and isinstance(new, Even)
                    if isinstance(old, Even):
                        self.assertIsInstance(new, Even)
                        bounds = old.leads + (old.leads[copy.place],)
                        self.assertTrue(all(lead <= bound for lead, bound in zip(new.leads, bounds)))
        self.assertTrue(better > 20 and fewer > 5, (better, fewer))

    def test_bad_lots(self):
        copy = copied(example(), 0, (1,))
        for index, wrong in BAD_LOTS:
            self.refuses(BadLot, {"index": index}, lifted_lot, copy, wrong)
        self.refuses(BadLot, {"index": 1}, lifted_lot, copy, (1, 5))
        self.assertEqual(lifted_lot(copy, ()), ())
        self.assertEqual(lifted_lot(copy, (0, 1)), (0, 1, 5))

    def test_meters(self):
        for source in sources(80):
            meter = random_meter(source, most_places=4, most_arrows=4)
            for copy in all_copies(meter.chart):
                lifted = lifted_meter(copy, meter)
                self.assertEqual(lifted, Meter(copy.chart, meter.first, [meter.charges[old] for old in copy.origins]))
                for run in runs_up_to(copy.chart, 3):
                    self.assertEqual(plain_lead(lifted, run), plain_lead(meter, lead_back(copy, run)))
        copy = copied(example(), 0, (1,))
        for other in (Meter(copy.chart, 0, [0] * 8), Meter(branch(), 0, [0] * 3), Meter(Chart((2, 3, 4, 2), example().arrows), 0, [0] * 5)):
            self.refuses(Unlike, {"what": "charts"}, lifted_meter, copy, other)
        self.assertEqual(lifted_meter(copy, example_meter()).charges, (0, 5, 0, 6, 0, 0, 0, 0))


class Best(Raises, unittest.TestCase):
    def told(self, chart, lot):
        """The best copy, by trying all of them in the told order."""
        found = least_even(chart, lot)
        bound = max(found.leads) if isinstance(found, Even) else None
        best = None
        for place in range(len(chart)):
            for arrows in place_subsets(len(chart.arrows)):
                if len(plain_copy(chart, place, arrows)) == 3:
                    copy = copied(chart, place, arrows)
                    found = least_even(copy.chart, lifted_lot(copy, lot))
                    if isinstance(found, Even) and (bound is None or max(found.leads) < bound):
                        bound = max(found.leads)
                        best = BestCopy(place, arrows, bound)
        return best

    def test_all_lots(self):
        seen = {True: 0, False: 0}
        for source in sources(80):
            chart = random_chart(source, most_places=4, most_arrows=5)
            for lot in all_lots(chart):
                found = best_copy(chart, list(lot))
                self.assertEqual(found, self.told(chart, lot))
                seen[found is None] += 1
                if found is not None:
                    self.assertTrue(is_deep_tuple(found.arrows))
        self.assertTrue(seen[True] > 100 and seen[False] > 30, seen)

    def test_edges(self):
        self.assertIsNone(best_copy(Chart([3], []), ()))
        self.assertIsNone(best_copy(example(), (0, 1, 2, 3, 4)))
        six = Chart([1, 2, 0], [(0, 1), (0, 1), (1, 2), (0, 2), (2, 0), (2, 1)])
        for lot in ((), (0,), (4, 5), (1, 2, 4, 5)):
            self.assertEqual(best_copy(six, lot), self.told(six, lot))
        row = Chart([1, 0, 3, 0, 2, 0, 4], [(at, at + 1) for at in range(6)])
        self.assertEqual(best_copy(row, (2,)), self.told(row, (2,)))

    def test_refused(self):
        seven = Chart([1, 1], [(0, 1)] * 7)
        for index, wrong in BAD_LOTS:
            self.refuses(BadLot, {"index": index}, best_copy, seven, wrong)
        self.refuses(TooMany, {"count": 7}, best_copy, seven, (6,))
        self.refuses(TooMany, {"count": 32}, best_copy, dense(), ())
        self.assertIsNone(best_copy(Chart([1, 1], [(0, 1)] * 6), ()))


if __name__ == "__main__":
    unittest.main()
