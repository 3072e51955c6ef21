"""[8.5] and [8.6]: the lower and the upper one of two meters, and which one stops sooner."""

import unittest

from helping import Raises, dense, end_of, example, example_meter, is_deep_tuple, least_metered, line, loop, metered
from helping import plain_lead, runs_up_to, some_metered, some_pairs, sources
from purseahead.charts import Chart
from purseahead.comparing import Sooner, find_sooner, lower_of, upper_of
from purseahead.covering import even_leads, is_covered, is_metered
from purseahead.errors import Parted, Unlike
from purseahead.leastmeters import least_meter, meter_of
from purseahead.meters import Meter
from purseahead.moving import find_drops
from purseahead.runs import run_to

MOST = 10 ** 12


def payments(meter, run, limit):
    """How many charges of the run, the first one among them, are paid within the limit."""
    total = 0
    for number, charge in enumerate([meter.first, *[meter.charges[arrow] for arrow in run]]):
        total += charge
        if total > limit:
            return number
    return len(run) + 1


def limits_along(meters, run):
    """Every limit at which a payment changes, and one less."""
    totals = {0}
    for meter in meters:
        for number in range(len(run) + 1):
            totals.add(meter.charged(run[:number]))
    return sorted({limit for total in totals for limit in (total, total - 1) if limit >= 0})


class LowerAndUpper(Raises, unittest.TestCase):
    def test_example(self):
        one, other = meter_of(example(), (6, 4, 4, 4)), meter_of(example(), (7, 5, 5, 5))
        self.assertEqual(lower_of(one, other), one)
        self.assertEqual(upper_of(one, other), other)
        crossed = meter_of(example(), (5, 4, 5, 3))
        self.assertEqual(even_leads(lower_of(one, crossed)), (5, 4, 4, 3))
        self.assertEqual(even_leads(upper_of(one, crossed)), (6, 4, 5, 4))
        self.assertEqual(lower_of(one, one), one)

    def test_all_runs(self):
        unlike = 0
        for one, other, _ in some_pairs(200):
            lower, upper = lower_of(one, other), upper_of(one, other)
            unlike += len({(meter.first, meter.charges) for meter in (one, other, lower, upper)}) == 4
            for run in runs_up_to(one.chart, 3):
                leads = [plain_lead(meter, run) for meter in (one, other)]
                self.assertEqual(plain_lead(lower, run), min(leads))
                self.assertEqual(plain_lead(upper, run), max(leads))
            for found in (lower, upper):
                self.assertIsInstance(found, Meter)
                self.assertEqual(found.chart, one.chart)
                self.assertTrue(is_covered(found) or not (is_covered(one) and is_covered(other)))
                rows = zip(*[(meter.first, *meter.charges) for meter in (one, other, found)])
                self.assertTrue(all(min(a, b) <= between <= max(a, b) for a, b, between in rows))
            self.assertEqual((lower_of(other, one), upper_of(other, one)), (lower, upper))
        self.assertGreater(unlike, 40)

    def test_even_and_covered(self):
        for source in sources(40):
            one = metered(source, most_places=4)
            others = [least_meter(one.chart, lot) for lot in ((), tuple(range(len(one.charges))))]
            for other in others:
                if isinstance(other, Meter):
                    for found in (lower_of(one, other), upper_of(one, other)):
                        self.assertTrue(is_metered(found))
                        charged = set(one.charged_arrows) | set(other.charged_arrows)
                        self.assertTrue(set(found.charged_arrows) <= charged)

    def test_edges(self):
        one, other = Meter(line(2), MOST, [0]), Meter(line(2), 0, [MOST])
        self.assertEqual(lower_of(one, other), other)
        self.assertEqual(upper_of(one, other), one)
        far = Meter(line(3), MOST, [MOST, 0]), Meter(line(3), 0, [0, MOST])
        self.assertEqual((lower_of(*far), upper_of(*far)), (far[1], far[0]))

    def test_refused(self):
        apart = example_meter(6, (1, 5, 0, 6, 0))
        for work in (lower_of, upper_of, find_sooner):
            for other in (Meter(line(4), 6, (0, 0, 0)), Meter(Chart((2, 3, 4, 2), example().arrows), 6, (0, 5, 0, 6, 0))):
                self.refuses(Unlike, {"what": "charts"}, work, example_meter(), other)
            place = find_drops(example_meter(), apart).place
            self.refuses(Parted, {"place": place}, work, example_meter(), apart)
            self.refuses(Parted, {"place": 0}, work, Meter(loop(), 0, [1]), Meter(loop(), 0, [2]))


class SoonerStops(unittest.TestCase):
    def test_example(self):
        one, other = meter_of(example(), (6, 4, 4, 4)), meter_of(example(), (5, 4, 5, 3))
        self.assertEqual(find_sooner(one, other), Sooner((), 5))
        self.assertEqual(find_sooner(other, one), Sooner((2,), 6))
        self.assertIsNone(find_sooner(one, one))

    def test_ties(self):
        # Places 1 and 2 have one arrow each; place 2 comes by the lesser arrow.
        chart = Chart([1, 1, 1], [(0, 2), (0, 1)])
        one, other = Meter(chart, 1, (2, 2)), Meter(chart, 1, (1, 0))
        self.assertEqual(find_sooner(one, other), Sooner((0,), 2))
        # Place 1 comes only behind two arrows, place 2 behind one.
        late = Chart([0, 1, 1], [(2, 1), (0, 2)])
        self.assertEqual(find_sooner(Meter(late, 0, (0, 3)), Meter(late, 0, (0, 1))), Sooner((1,), 1))
        self.assertEqual(find_sooner(Meter(late, 0, (3, 1)), Meter(late, 0, (1, 1))), Sooner((1, 0), 2))

    def test_all_runs_and_limits(self):
        sooner = 0
        for one, other, drops in some_pairs(150):
            found = find_sooner(one, other)
            meets = [(run, limit) for run in runs_up_to(one.chart, 4) for limit in limits_along((one, other), run)
                     if payments(one, run, limit) < payments(other, run, limit)]
            if found is None:
                self.assertEqual(meets, [])
                self.assertTrue(max(drops) <= 0)
                continue
            sooner += 1
            runs = [run_to(one.chart, place) for place, drop in enumerate(drops) if drop > 0]
            self.assertEqual(found.run, min(runs, key=lambda run: (len(run), run)))
            self.assertEqual(found.limit, other.charged(found.run))
            self.assertEqual(payments(one, found.run, found.limit), len(found.run))
            self.assertEqual(payments(other, found.run, found.limit), len(found.run) + 1)
            self.assertTrue(is_deep_tuple(found.run))
        self.assertTrue(60 < sooner < 140, sooner)

    def test_least_meters_stop_no_sooner(self):
        for source in sources(60):
            meter = least_metered(source, most_places=4)
            least = least_meter(meter.chart, meter.charged_arrows)
            self.assertIsNone(find_sooner(least, meter))
            for other in some_metered(20):
                if other.chart == meter.chart and set(other.charged_arrows) <= set(meter.charged_arrows):
                    self.assertIsNone(find_sooner(least, other))
            more = [lead + source.randint(0, 3) for lead in even_leads(least)]
            charges = [more[head] - more[tail] + meter.chart.costs[tail] for tail, head in meter.chart.arrows]
            if all(charge >= 0 and (charge == 0 or arrow in meter.charged_arrows) for arrow, charge in enumerate(charges)):
                self.assertIsNone(find_sooner(least, Meter(meter.chart, more[0], charges)))

    def test_alike_exactly_if_equal(self):
        for one, other, drops in some_pairs(100):
            alike = find_sooner(one, other) is None and find_sooner(other, one) is None
            self.assertEqual(alike, one == other)
            self.assertEqual(alike, set(drops) == {0})

    def test_edges(self):
        far = Meter(line(3), MOST, [MOST, 0]), Meter(line(3), 0, [0, MOST])
        self.assertEqual(find_sooner(*far), Sooner((), 0))
        self.assertIsNone(find_sooner(far[1], far[0]))
        plain = Meter.plain(dense())
        self.assertIsNone(find_sooner(plain, plain))
        more = plain.with_first(plain.first + 1)
        found = find_sooner(Meter(dense(), 1, [charge for charge in more.charges]), more)
        self.assertIsNone(found)
        self.assertEqual(end_of(dense(), find_sooner(more, plain).run), 0)


if __name__ == "__main__":
    unittest.main()
