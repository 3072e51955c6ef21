"""[2.10] to [2.12]: covered meters and even meters."""

import unittest
from itertools import product

from helping import ARROWS, COSTS, Raises, dense, even_meter, example, example_meter, is_deep_tuple, ladder, line, loop
from helping import plain_lead, random_meter, ring_gain, simple_rings, simple_runs, sources, visits
from purseahead.charts import Chart
from purseahead.covering import Short, Uneven, even_leads, find_short, is_covered, is_metered, least_first
from purseahead.covering import leads_fault
from purseahead.drifts import Drift, find_drift, find_fall
from purseahead.errors import Drifting
from purseahead.leads import find_high_run, find_low_run, high_leads, low_leads
from purseahead.meters import Meter
from purseahead.runs import run_to, used_by


def behind(meter, run):
    return plain_lead(meter, run) - meter.chart.costs[visits(meter.chart, run)[-1]]


def plain_short(meter):
    """The first short run among those that pass no place twice; no ring of the meter falls."""
    for run in simple_runs(meter.chart):
        if behind(meter, run) < 0:
            return Short(run, -behind(meter, run))
    return None


def falls(meter):
    return any(ring_gain(meter, ring) < 0 for ring in simple_rings(meter.chart))


def meters(count):
    for source in sources(count):
        yield random_meter(source)
        yield even_meter(source)
        yield random_meter(source, most_charge=3, most_places=5, most_arrows=6, most_cost=2)


def hard(first):
    """16 places and 32 arrows without a ring: 2 ** 15 runs to the last place."""
    arrows = [(at, at + 1) for at in range(15) for _ in range(2)] + [(0, 1), (0, 1)]
    return Meter(Chart([1] * 16, arrows), first, [1, 0] * 16)


class Covered(Raises, unittest.TestCase):
    def test_example(self):
        self.assertEqual(find_short(example_meter()), None)
        self.assertEqual(find_short(example_meter(first=5)), Short((2,), 1))
        self.assertEqual(least_first(example_meter()), 6)
        self.assertIs(is_covered(example_meter()), True)
        self.assertIs(is_covered(example_meter(first=5)), False)

    def test_falling(self):
        falling = example_meter(first=0, charges=(0, 5, 0, 4, 0))
        self.assertEqual(find_short(falling), Drift((2, 3), -2))
        self.assertIs(is_covered(falling), False)
        self.refuses(Drifting, {"ring": (2, 3), "by": -2}, least_first, falling)
        self.assertEqual(find_short(falling.with_first(10 ** 12)), Drift((2, 3), -2))

    def test_rising(self):
        rising = example_meter().with_charge(3, 10 ** 12)
        self.assertEqual(find_short(rising), None)
        self.assertEqual(least_first(rising), 6)

    def test_first_short_run(self):
        # A longer run is shorter of charges, but the one with fewer arrows is told.
        chart = Chart([1, 1, 5, 9], [(0, 2), (0, 1), (1, 3), (1, 2)])
        self.assertEqual(find_short(Meter(chart, 1, (4, 1, 0, 0))), Short((0,), 1))
        self.assertEqual(find_short(Meter(chart, 1, (5, 1, 0, 0))), Short((1, 2), 9))
        self.assertEqual(find_short(Meter(chart, 0, (5, 1, 0, 0))), Short((), 1))
        self.assertEqual(find_short(Meter(chart, 1, (5, 0, 0, 0))), Short((1,), 1))

    def test_edges(self):
        self.assertEqual(find_short(Meter(Chart([0], []), 0, ())), None)
        self.assertEqual(find_short(Meter(Chart([10 ** 9], []), 0, ())), Short((), 10 ** 9))
        self.assertEqual(least_first(Meter(Chart([10 ** 9], []), 7, ())), 10 ** 9)
        self.assertEqual(least_first(Meter(Chart([0], []), 7, ())), 0)
        self.assertEqual(least_first(Meter(loop(), 7, [1])), 1)
        self.assertEqual(find_short(Meter(loop(), 1, [1])), None)
        self.assertEqual(find_short(Meter(loop(), 0, [5])), Short((), 1))

    def test_small_charts(self):
        for meter in meters(150):
            if falls(meter):
                fall = find_fall(meter)
                self.assertEqual(find_short(meter), fall)
                self.assertIs(is_covered(meter), False)
                self.refuses(Drifting, {"ring": fall.ring, "by": fall.by}, least_first, meter)
                continue
            self.assertEqual(find_short(meter), plain_short(meter))
            self.assertIs(is_covered(meter), plain_short(meter) is None)
            least = least_first(meter)
            self.assertEqual(plain_short(meter.with_first(least)), None)
            if least > 0:
                self.assertNotEqual(plain_short(meter.with_first(least - 1)), None)
            self.assertEqual(least_first(meter.with_first(0)), least)
            self.assertEqual(least_first(meter.with_first(10 ** 12)), least)

    def test_largest(self):
        self.assertEqual(least_first(hard(0)), 16)
        self.assertEqual(find_short(hard(16)), None)
        self.assertEqual(find_short(hard(15)), Short(tuple(range(1, 30, 2)), 1))
        self.assertEqual(find_short(hard(14)), Short(tuple(range(1, 28, 2)), 1))
        dear = Meter(Chart([10 ** 9] * 16, line(16).arrows), 0, [0] * 15)
        self.assertEqual(least_first(dear), 16 * 10 ** 9)
        self.assertEqual(find_short(dear.with_first(16 * 10 ** 9 - 1)), Short(tuple(range(15)), 1))
        self.assertIs(is_covered(Meter.plain(dense())), True)
        self.assertEqual(least_first(Meter.plain(ladder())), 1)


class EvenMeters(unittest.TestCase):
    def test_example(self):
        self.assertEqual(even_leads(example_meter()), (6, 4, 4, 4))
        self.assertIs(is_metered(example_meter()), True)
        self.assertEqual(even_leads(example_meter(first=5)), (5, 3, 3, 3))
        self.assertIs(is_metered(example_meter(first=5)), False)

    def test_drifting(self):
        rising = example_meter().with_charge(3, 7)
        self.assertEqual(even_leads(rising), Uneven(0, (), (2, 3)))
        self.assertIs(is_metered(rising), False)
        chart = Chart([1] * 4, [(0, 3), (3, 2), (2, 3), (0, 2), (3, 1)])
        self.assertEqual(even_leads(Meter(chart, 1, (1, 1, 2, 1, 1))), Uneven(2, (3,), (3, 2, 1)))
        self.assertEqual(even_leads(Meter(chart, 1, (1, 0, 1, 1, 1))), Uneven(2, (3,), (3, 2, 1)))
        self.assertEqual(even_leads(Meter(loop(), 1, [0])), Uneven(0, (), (0,)))

    def test_uneven(self):
        chart = Chart([1] * 4, [(0, 1), (0, 1), (1, 3), (0, 2), (2, 3), (0, 3)])
        self.assertEqual(even_leads(Meter(chart, 1, (2, 5, 0, 0, 0, 0))), Uneven(1, (0,), (1,)))
        self.assertEqual(even_leads(Meter(chart, 1, (5, 2, 0, 0, 0, 0))), Uneven(1, (1,), (0,)))
        self.assertEqual(even_leads(Meter(chart, 1, (1, 1, 1, 1, 1, 0))), Uneven(3, (5,), (0, 2)))
        self.assertEqual(even_leads(Meter(chart, 1, (1, 1, 1, 1, 1, 1))), (1, 1, 1, 1))

    def test_small_charts(self):
        for meter in meters(150):
            found = even_leads(meter)
            rows = [set() for _ in meter.chart.costs]
            for run in simple_runs(meter.chart):
                rows[visits(meter.chart, run)[-1]].add(plain_lead(meter, run))
            even = all(len(row) == 1 for row in rows) and find_drift(meter) is None
            self.assertIs(isinstance(found, tuple), even)
            if even:
                self.assertEqual(found, tuple(min(row) for row in rows))
                self.assertTrue(is_deep_tuple(found))
                self.assertEqual(leads_fault(meter, found), None)
            else:
                self.check_uneven(meter, found)
            self.assertIs(is_metered(meter), even and is_covered(meter))

    def check_uneven(self, meter, found):
        drift = find_drift(meter)
        if drift is not None:
            place = min(meter.chart.arrows[arrow][0] for arrow in drift.ring)
            run = run_to(meter.chart, place)
            self.assertEqual(found, Uneven(place, run, run + drift.ring))
        else:
            lows, highs = low_leads(meter), high_leads(meter)
            place = next(place for place in range(len(lows)) if lows[place] < highs[place])
            self.assertEqual(found, Uneven(place, find_low_run(meter, place), find_high_run(meter, place)))
        self.assertEqual(visits(meter.chart, found.one)[-1], found.place)
        self.assertEqual(visits(meter.chart, found.other)[-1], found.place)
        self.assertNotEqual(plain_lead(meter, found.one), plain_lead(meter, found.other))
        self.assertTrue(is_deep_tuple(found.one) and is_deep_tuple(found.other))

    def test_used_is_charged_less_lead(self):
        for source in sources(30):
            meter = even_meter(source)
            leads = even_leads(meter)
            for run in simple_runs(meter.chart):
                last = visits(meter.chart, run)[-1]
                used = used_by(meter.chart, run) - meter.chart.costs[last]
                self.assertEqual(used, meter.charged(run) - leads[last])

    def test_largest(self):
        plain = Meter.plain(dense())
        self.assertEqual(even_leads(plain), dense().costs)
        self.assertIs(is_metered(plain), True)
        self.assertEqual(even_leads(Meter.plain(ladder())), (1,) * 16)
        one = Meter.plain(ladder())
        whole = tuple(range(0, 32, 2))
        self.assertEqual(even_leads(one.with_charge(31, 2)), Uneven(0, (), whole[:-1] + (31,)))
        self.assertEqual(even_leads(hard(50)), Uneven(1, (1,), (0,)))


class JudgingLeads(unittest.TestCase):
    def test_right(self):
        self.assertEqual(leads_fault(example_meter(), (6, 4, 4, 4)), None)
        self.assertEqual(leads_fault(example_meter(), [6, 4, 4, 4]), None)

    def test_form(self):
        for wrong in (None, 5, "6444", {}, (), (6, 4, 4), (6, 4, 4, 4, 4), (6, 4, 4, True), (6, 4, 4, None),
                      ("6", 4, 4, 4), (6, [4], 4, 4), [7, 4, 4, False]):
            self.assertEqual(leads_fault(example_meter(), wrong), "form")
        self.assertEqual(leads_fault(Meter(loop(), 1, [1]), (True,)), "form")

    def test_first(self):
        self.assertEqual(leads_fault(example_meter(), (7, 5, 5, 5)), "first")
        self.assertEqual(leads_fault(example_meter(), (5, 3, 3, 3)), "first")

    def test_arrow(self):
        for place in (1, 2, 3):
            for by in (-1, 1):
                row = [6, 4, 4, 4]
                row[place] += by
                self.assertEqual(leads_fault(example_meter(), row), "arrow")
        self.assertEqual(leads_fault(Meter(loop(), 1, [2]), (1,)), "arrow")

    def test_just_one_row(self):
        for source in sources(40):
            for meter in (random_meter(source, most_places=3, most_arrows=4, most_cost=2, most_charge=2),
                          even_meter(source, most_places=3, most_arrows=4, most_cost=2)):
                box = product(range(meter.first - 10, meter.first + 11), repeat=len(meter.chart) - 1)
                right = [(meter.first, *row) for row in box if leads_fault(meter, (meter.first, *row)) is None]
                found = even_leads(meter)
                self.assertEqual(right, [found] if isinstance(found, tuple) else [])


class Results(unittest.TestCase):
    def test_kept(self):
        self.assertEqual(vars(Short((2,), 1)), {"run": (2,), "by": 1})
        self.assertEqual(vars(Uneven(1, (0,), (1,))), {"place": 1, "one": (0,), "other": (1,)})
        self.assertNotEqual(Short((2,), 1), Short((2,), 2))
        self.assertNotEqual(Short((2,), 1), Drift((2,), 1))
        self.assertNotEqual(Uneven(1, (0,), (1,)), Uneven(1, (1,), (0,)))


class Example(unittest.TestCase):
    def test_example(self):
        chart = example()
        self.assertEqual((chart.costs, chart.arrows), (COSTS, ARROWS))
        meter = Meter(chart, 6, (0, 5, 0, 6, 0))
        self.assertTrue(is_metered(meter))
        self.assertEqual(even_leads(meter), (6, 4, 4, 4))
        self.assertEqual((meter.charged((0, 1, 2)), meter.lead_ahead((0, 1, 2))), (11, 4))


if __name__ == "__main__":
    unittest.main()
