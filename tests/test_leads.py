"""[2.7] to [2.9]: leads of all runs, floors and ceilings."""

import unittest
from itertools import product

from helping import NO_NUMBERS, Raises, dense, even_meter, example_meter, is_deep_tuple, ladder, line, loop, plain_lead
from helping import random_meter, ring_gain, simple_rings, simple_runs, sources, visits
from purseahead.charts import Chart
from purseahead.drifts import find_fall, find_rise
from purseahead.errors import BadPlace, BadRun, Drifting
from purseahead.leads import ceiling_fault, find_high_run, find_low_run, floor_fault, greatest_lead, high_leads
from purseahead.leads import leads_along, low_leads
from purseahead.meters import Meter


def runs_by_place(meter):
    """For each place the (lead, run) of all runs to it that pass no place twice, in the order of runs."""
    found = [[] for _ in meter.chart.costs]
    for run in simple_runs(meter.chart):
        found[visits(meter.chart, run)[-1]].append((plain_lead(meter, run), run))
    return found


def first_with(runs, lead):
    return next(run for told, run in runs if told == lead)


def falls(meter):
    return any(ring_gain(meter, ring) < 0 for ring in simple_rings(meter.chart))


def rises(meter):
    return any(ring_gain(meter, ring) > 0 for ring in simple_rings(meter.chart))


def meters(count):
    for source in sources(count):
        yield random_meter(source)
        yield even_meter(source)
        yield random_meter(source, most_charge=3, most_places=5, most_arrows=6, most_cost=2)


def hard():
    """16 places and 32 arrows: two arrows of unlike charges from each place to the next, no ring."""
    arrows = [(at, at + 1) for at in range(15) for _ in range(2)] + [(0, 1), (0, 1)]
    return Meter(Chart([1] * 16, arrows), 100, [1, 3] * 16)


class Lows(Raises, unittest.TestCase):
    def test_example(self):
        self.assertEqual(low_leads(example_meter()), (6, 4, 4, 4))
        self.assertEqual(high_leads(example_meter()), (6, 4, 4, 4))
        rising = example_meter().with_charge(3, 7)
        self.assertEqual(low_leads(rising), (6, 4, 4, 4))
        self.refuses(Drifting, {"ring": (2, 3), "by": 1}, high_leads, rising)
        self.assertEqual(low_leads(example_meter(first=5)), (5, 3, 3, 3))

    def test_falling(self):
        falling = example_meter(charges=(0, 3, 0, 9, 0))
        self.refuses(Drifting, {"ring": (0, 1), "by": -2}, low_leads, falling)
        self.refuses(Drifting, {"ring": (2, 3), "by": 3}, high_leads, falling)
        self.refuses(Drifting, {"ring": (2, 3), "by": 3}, greatest_lead, falling)

    def test_edges(self):
        single = Meter(Chart([9], []), 4, ())
        self.assertEqual((low_leads(single), high_leads(single), greatest_lead(single)), ((4,), (4,), 4))
        self.assertEqual(low_leads(Meter(loop(), 0, [1])), (0,))
        self.assertEqual(low_leads(Meter(line(3), 0, [0, 0])), (0, -1, -2))

    def test_small_charts(self):
        for meter in meters(120):
            runs = runs_by_place(meter)
            if falls(meter):
                fall = find_fall(meter)
                self.refuses(Drifting, {"ring": fall.ring, "by": fall.by}, low_leads, meter)
            else:
                lows = tuple(min(lead for lead, _ in row) for row in runs)
                self.assertEqual(low_leads(meter), lows)
                self.assertTrue(is_deep_tuple(low_leads(meter)))
            if rises(meter):
                rise = find_rise(meter)
                self.refuses(Drifting, {"ring": rise.ring, "by": rise.by}, high_leads, meter)
                self.refuses(Drifting, {"ring": rise.ring, "by": rise.by}, greatest_lead, meter)
            else:
                highs = tuple(max(lead for lead, _ in row) for row in runs)
                self.assertEqual(high_leads(meter), highs)
                self.assertEqual(greatest_lead(meter), max(highs))

    def test_largest(self):
        # 2 ** 15 runs to the last place.
        self.assertEqual(low_leads(hard()), (100,) * 16)
        self.assertEqual(high_leads(hard()), tuple(range(100, 132, 2)))
        self.assertEqual(greatest_lead(hard()), 130)
        meter = Meter(Chart([10 ** 9] * 16, line(16).arrows), 0, [0] * 15)
        self.assertEqual(low_leads(meter)[15], -15 * 10 ** 9)
        meter = Meter(line(16), 10 ** 12, [10 ** 12] * 15)
        self.assertEqual(greatest_lead(meter), 16 * 10 ** 12 - 15)

    def test_order_of_arrows(self):
        # The arrows in the order in which lows settle last.
        arrows = [(at, at + 1) for at in range(14, -1, -1)] + [(at + 1, at) for at in range(14, -1, -1)]
        meter = Meter(Chart([1] * 16, arrows), 50, [0] * 15 + [9] * 15)
        self.assertEqual(low_leads(meter), tuple(range(50, 34, -1)))


class Runs(Raises, unittest.TestCase):
    def test_example(self):
        meter = example_meter()
        self.assertEqual([find_low_run(meter, place) for place in range(4)], [(), (0,), (2,), (4,)])
        self.assertEqual([find_high_run(meter, place) for place in range(4)], [(), (0,), (2,), (4,)])

    def test_first(self):
        chart = Chart([0] * 4, [(2, 3), (1, 3), (0, 2), (0, 1), (1, 3), (0, 3)])
        self.assertEqual(find_low_run(Meter(chart, 0, (0, 0, 0, 0, 0, 1)), 3), (2, 0))
        self.assertEqual(find_low_run(Meter(chart, 0, (0, 0, 0, 0, 0, 0)), 3), (5,))
        self.assertEqual(find_low_run(Meter(chart, 0, (5, 1, 0, 0, 0, 2)), 3), (3, 4))
        self.assertEqual(find_high_run(Meter(chart, 0, (5, 1, 0, 4, 1, 2)), 3), (2, 0))
        self.assertEqual(find_high_run(Meter(chart, 0, (4, 1, 0, 4, 1, 2)), 3), (3, 1))

    def test_refused(self):
        drifting = example_meter(charges=(0, 3, 0, 9, 0))
        for wrong in (-1, 4, *NO_NUMBERS):
            for meter in (example_meter(), drifting):
                self.refuses(BadPlace, {"place": wrong}, find_low_run, meter, wrong)
                self.refuses(BadPlace, {"place": wrong}, find_high_run, meter, wrong)
        for place in range(4):
            self.refuses(Drifting, {"ring": (0, 1), "by": -2}, find_low_run, drifting, place)
            self.refuses(Drifting, {"ring": (2, 3), "by": 3}, find_high_run, drifting, place)

    def test_small_charts(self):
        for meter in meters(120):
            runs = runs_by_place(meter)
            for place, row in enumerate(runs):
                if not falls(meter):
                    self.assertEqual(find_low_run(meter, place), first_with(row, min(row)[0]))
                if not rises(meter):
                    self.assertEqual(find_high_run(meter, place), first_with(row, max(row)[0]))

    def test_largest(self):
        self.assertEqual(find_low_run(hard(), 15), tuple(range(0, 30, 2)))
        self.assertEqual(find_high_run(hard(), 15), tuple(range(1, 30, 2)))
        chart = dense()
        flat = Meter(chart, 5, [chart.costs[tail] for tail, _ in chart.arrows])
        self.assertEqual(find_low_run(flat, 15), (1, 7, 13, 19, 25))
        self.assertEqual(find_high_run(flat, 15), (1, 7, 13, 19, 25))
        whole = Meter(ladder(), 0, [1] * 32)
        self.assertEqual(find_low_run(whole, 15), tuple(range(0, 30, 2)))


class Along(Raises, unittest.TestCase):
    def test_example(self):
        told = [(0, 6, 4), (1, 4, 1), (0, 6, 4), (2, 4, 0)]
        for run in ((0, 1, 2), [0, 1, 2]):
            self.assertEqual(list(leads_along(example_meter(), run)), told)
        self.assertEqual(list(leads_along(example_meter(), ())), [(0, 6, 4)])

    def test_small_charts(self):
        for meter in meters(30):
            for run in simple_runs(meter.chart):
                told = list(leads_along(meter, run))
                self.assertEqual(len(told), len(run) + 1)
                self.assertTrue(all(isinstance(item, tuple) for item in told))
                for count, (place, ahead, behind) in enumerate(told):
                    self.assertEqual(place, visits(meter.chart, run)[count])
                    self.assertEqual(ahead, plain_lead(meter, run[:count]))
                    self.assertEqual(behind, ahead - meter.chart.costs[place])

    def test_longest(self):
        told = list(leads_along(Meter(loop(), 10 ** 12, [10 ** 12]), [0] * 400))
        self.assertEqual((len(told), told[-1]), (401, (0, 401 * 10 ** 12 - 400, 401 * 10 ** 12 - 401)))

    def test_refused(self):
        for index, run in ((0, (1,)), (1, (0, 0)), (2, (0, 1, 9)), (0, None), (0, "0"), (1, [0, True]), (0, 3),
                           (0, (0, 1) * 200 + (0,))):
            self.refuses(BadRun, {"index": index}, leads_along, example_meter(), run)


class Floors(unittest.TestCase):
    def test_example(self):
        meter = example_meter()
        for row in ((6, 4, 4, 4), [6, 4, 4, 4]):
            self.assertEqual(floor_fault(meter, row), None)
            self.assertEqual(ceiling_fault(meter, row), None)
        self.assertEqual(floor_fault(meter, (6, 4, 4, -10 ** 30)), None)
        self.assertEqual(ceiling_fault(meter, (6, 4, 4, 10 ** 30)), None)
        self.assertEqual(floor_fault(meter, (0, -2, -2, -9)), None)
        self.assertEqual(ceiling_fault(meter, (9, 7, 7, 7)), None)

    def test_form(self):
        for wrong in (None, 5, "6444", {}, (), (6, 4, 4), (6, 4, 4, 4, 4), (6, 4, 4, True), (6, 4, 4, None),
                      ("6", 4, 4, 4), (6, [4], 4, 4)):
            self.assertEqual(floor_fault(example_meter(), wrong), "form")
            self.assertEqual(ceiling_fault(example_meter(), wrong), "form")

    def test_first(self):
        self.assertEqual(floor_fault(example_meter(), (7, 4, 4, 4)), "first")
        self.assertEqual(floor_fault(example_meter(), (7, 99, 4, 4)), "first")
        self.assertEqual(ceiling_fault(example_meter(), (5, 4, 4, 4)), "first")
        self.assertEqual(ceiling_fault(example_meter(), (5, 0, 4, 4)), "first")

    def test_arrow(self):
        for place in (1, 2, 3):
            row = [6, 4, 4, 4]
            row[place] = 5
            self.assertEqual(floor_fault(example_meter(), row), "arrow")
            row[place] = 3
            self.assertEqual(ceiling_fault(example_meter(), row), "arrow")
        self.assertEqual(floor_fault(example_meter(), (5, 4, 4, 4)), "arrow")
        self.assertEqual(ceiling_fault(example_meter(), (7, 4, 4, 4)), "arrow")

    def test_all_rows_in_a_box(self):
        for source in sources(25):
            meter = random_meter(source, most_charge=2, most_places=3, most_arrows=4, most_cost=2)
            box = list(product(range(meter.first - 7, meter.first + 8), repeat=len(meter.chart)))
            floors = [row for row in box if floor_fault(meter, row) is None]
            ceilings = [row for row in box if ceiling_fault(meter, row) is None]
            self.assertEqual(floors, [row for row in box if is_floor(meter, row, 1)])
            self.assertEqual(ceilings, [row for row in box if is_floor(meter, row, -1)])
            if falls(meter):
                self.assertEqual(floors, [])
            else:
                self.assertEqual(low_leads(meter), tuple(max(row) for row in zip(*floors)))
            if rises(meter):
                self.assertEqual(ceilings, [])
            else:
                self.assertEqual(high_leads(meter), tuple(min(row) for row in zip(*ceilings)))

    def test_largest(self):
        self.assertEqual(floor_fault(hard(), low_leads(hard())), None)
        self.assertEqual(ceiling_fault(hard(), high_leads(hard())), None)
        for place in range(1, 16):
            row = list(low_leads(hard()))
            row[place] += 1
            self.assertEqual(floor_fault(hard(), row), "arrow")


def is_floor(meter, row, sign):
    """Whether a row is a floor (sign 1) or a ceiling (sign -1)."""
    if sign * row[0] > sign * meter.first:
        return False
    return all(sign * row[head] <= sign * (row[tail] - meter.chart.costs[tail] + charge)
               for (tail, head), charge in zip(meter.chart.arrows, meter.charges))


if __name__ == "__main__":
    unittest.main()
