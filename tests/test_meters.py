"""[2.1] to [2.4]: meters."""

import unittest

from helping import ARROWS, COSTS, NO_NUMBERS, NO_SEQUENCES, Raises, example, example_meter, is_deep_tuple, ladder
from helping import loop, plain_lead, plain_runs, random_meter, sources
from purseahead.charts import Chart
from purseahead.errors import BadArrow, BadChart, BadMeter, BadRun, Unlike
from purseahead.meters import Meter

CHARGES = (0, 5, 0, 6, 0)


class Making(Raises, unittest.TestCase):
    def bad(self, what, index, first, charges, chart=None):
        self.refuses(BadMeter, {"what": what, "index": index}, Meter, chart or example(), first, charges)

    def test_attributes(self):
        meter = Meter(chart=example(), first=6, charges=list(CHARGES))
        self.assertEqual(vars(meter), {"chart": example(), "first": 6, "charges": CHARGES})
        self.assertTrue(is_deep_tuple(meter.charges))
        self.assertEqual(Meter(Chart([1], []), 0, ()).charges, ())

    def test_nothing_is_kept(self):
        charges = list(CHARGES)
        meter = Meter(example(), 6, charges)
        self.assertEqual(charges, list(CHARGES))
        charges[0] = 9
        charges.append(1)
        self.assertEqual(meter.charges, CHARGES)

    def test_ends_of_the_range(self):
        meter = Meter(loop(), 10 ** 12, [10 ** 12])
        self.assertEqual((meter.first, meter.charges), (10 ** 12, (10 ** 12,)))
        self.assertEqual(Meter(loop(), 0, [0]).charges, (0,))

    def test_first(self):
        for wrong in (-1, 10 ** 12 + 1, *NO_NUMBERS):
            self.bad("first", 0, wrong, CHARGES)

    def test_charges(self):
        for wrong in (*NO_SEQUENCES, (), (0,) * 4, (0,) * 6, [None] * 6):
            self.bad("charges", 0, 6, wrong)
        self.bad("charges", 0, 0, [0], Chart([1], []))
        for wrong in (-1, 10 ** 12 + 1, *NO_NUMBERS):
            self.bad("charge", 0, 6, (wrong, 0, 0, 0, 0))
            self.bad("charge", 3, 6, [0, 0, 0, wrong, wrong])

    def test_first_word(self):
        self.bad("first", 0, -1, None)
        self.bad("first", 0, True, (-1,) * 5)
        self.bad("charges", 0, 0, (-1,) * 4)

    def test_charged_arrows(self):
        self.assertEqual(example_meter().charged_arrows, (1, 3))
        self.assertEqual(Meter(example(), 9, [0] * 5).charged_arrows, ())
        self.assertEqual(Meter(ladder(), 0, [1] * 32).charged_arrows, tuple(range(32)))

    def test_equal(self):
        self.assertTrue(example_meter() == example_meter())
        self.assertFalse(example_meter() != example_meter())
        self.assertNotEqual(example_meter(), example_meter(first=7))
        self.assertNotEqual(example_meter(), example_meter(charges=(0, 5, 0, 6, 1)))
        self.assertNotEqual(example_meter(), Meter(Chart((2, 3, 4, 2), ARROWS), 6, CHARGES))
        for other in (None, 6, CHARGES, example(), (example(), 6, CHARGES)):
            self.assertFalse(example_meter() == other)
            self.assertTrue(example_meter() != other)


class Leads(Raises, unittest.TestCase):
    def test_example(self):
        meter = example_meter()
        for run in ((0, 1, 2), [0, 1, 2]):
            self.assertEqual(meter.charged(run), 11)
            self.assertEqual(meter.lead_ahead(run), 4)
            self.assertEqual(meter.lead_behind(run), 0)

    def test_no_arrow(self):
        meter = example_meter()
        self.assertEqual((meter.charged(()), meter.lead_ahead(()), meter.lead_behind([])), (6, 6, 4))

    def test_below_0(self):
        meter = Meter(loop(), 0, [0])
        self.assertEqual((meter.lead_ahead((0, 0)), meter.lead_behind((0, 0))), (-2, -3))

    def test_largest(self):
        meter = Meter(loop(), 10 ** 12, [10 ** 12])
        self.assertEqual(meter.charged([0] * 400), 401 * 10 ** 12)
        self.assertEqual(meter.lead_behind([0] * 400), 401 * 10 ** 12 - 401)

    def test_small_charts(self):
        for source in sources(40):
            meter = random_meter(source)
            for length in range(4):
                for run in plain_runs(meter.chart, length):
                    lead = plain_lead(meter, run)
                    self.assertEqual(meter.charged(run), meter.first + sum(meter.charges[arrow] for arrow in run))
                    self.assertEqual(meter.lead_ahead(run), lead)
                    last = meter.chart.arrows[run[-1]][1] if run else 0
                    self.assertEqual(meter.lead_behind(run), lead - meter.chart.costs[last])

    def test_refused(self):
        for name in ("charged", "lead_ahead", "lead_behind"):
            work = getattr(example_meter(), name)
            for index, run in ((0, (1,)), (1, (0, 0)), (2, (0, 1, 9)), (0, None), (0, "0"), (1, [0, True]), (0, 3),
                               (0, (0, 1) * 200 + (0,))):
                self.refuses(BadRun, {"index": index}, work, run)


class Changing(Raises, unittest.TestCase):
    def test_with_first(self):
        meter = example_meter()
        self.assertEqual(meter.with_first(0), example_meter(first=0))
        self.assertEqual(meter.with_first(10 ** 12), example_meter(first=10 ** 12))
        self.assertEqual(meter, example_meter())
        for wrong in (-1, 10 ** 12 + 1, *NO_NUMBERS):
            self.refuses(BadMeter, {"what": "first", "index": 0}, meter.with_first, wrong)

    def test_with_charge(self):
        meter = example_meter()
        self.assertEqual(meter.with_charge(3, 7), example_meter(charges=(0, 5, 0, 7, 0)))
        self.assertEqual(meter.with_charge(0, 10 ** 12).charges, (10 ** 12, 5, 0, 6, 0))
        self.assertEqual(meter.with_charge(4, 0), meter)
        self.assertIsInstance(meter.with_charge(3, 7).charges, tuple)
        self.assertEqual(meter, example_meter())

    def test_with_charge_refused(self):
        meter = example_meter()
        for wrong in (-1, 5, *NO_NUMBERS):
            self.refuses(BadArrow, {"arrow": wrong}, meter.with_charge, wrong, 1)
            self.refuses(BadArrow, {"arrow": wrong}, meter.with_charge, wrong, -1)
        for wrong in (-1, 10 ** 12 + 1, *NO_NUMBERS):
            self.refuses(BadMeter, {"what": "charge", "index": 3}, meter.with_charge, 3, wrong)
            self.refuses(BadMeter, {"what": "charge", "index": 0}, meter.with_charge, 0, wrong)

    def test_plain(self):
        self.assertEqual(Meter.plain(example()), Meter(example(), 2, (3, 2, 4, 2, 1)))
        self.assertEqual(Meter.plain(Chart([0], [])), Meter(Chart([0], []), 0, ()))
        self.assertIsInstance(vars(Meter)["plain"], staticmethod)
        self.assertEqual(Meter.plain(Chart([10 ** 9], [(0, 0)])).charges, (10 ** 9,))
        for source in sources(20):
            plain = Meter.plain(random_meter(source).chart)
            for run in plain_runs(plain.chart, 3):
                last = plain.chart.arrows[run[-1]][1]
                self.assertEqual((plain.lead_ahead(run), plain.lead_behind(run)), (plain.chart.costs[last], 0))


class Adding(Raises, unittest.TestCase):
    def unlike(self, what, one, other):
        self.refuses(Unlike, {"what": what}, lambda: one + other)

    def test_sums(self):
        both = example_meter() + Meter(Chart((1, 0, 10, 5), ARROWS), 1, (1, 2, 3, 4, 5))
        self.assertEqual(both, Meter(Chart((3, 3, 14, 6), ARROWS), 7, (1, 7, 3, 10, 5)))
        self.assertEqual(Meter(Chart([1], []), 2, ()) + Meter(Chart([3], []), 4, ()), Meter(Chart([4], []), 6, ()))

    def test_the_meters_stay(self):
        one, other = example_meter(), example_meter(first=3)
        total = one
        total += other
        self.assertEqual((one, other, total.first), (example_meter(), example_meter(first=3), 9))

    def test_leads(self):
        for source in sources(20):
            one = random_meter(source)
            other = Meter(Chart([source.randint(0, 9) for _ in one.chart.costs], one.chart.arrows),
                          source.randint(0, 9), [source.randint(0, 9) for _ in one.charges])
            for run in plain_runs(one.chart, 3):
                self.assertEqual((one + other).lead_ahead(run), one.lead_ahead(run) + other.lead_ahead(run))
                self.assertEqual((one + other).lead_behind(run), one.lead_behind(run) + other.lead_behind(run))

    def test_unlike(self):
        shorter = Meter(Chart(COSTS[:3], ARROWS[:4]), 0, (0,) * 4)
        turned = Meter(Chart(COSTS, ARROWS[::-1]), 0, (0,) * 5)
        longer = Meter(Chart(COSTS, (*ARROWS, (0, 0))), 0, (0,) * 6)
        self.unlike("places", example_meter(), shorter)
        self.unlike("places", shorter, example_meter())
        self.unlike("arrows", example_meter(), turned)
        self.unlike("arrows", example_meter(), longer)
        self.unlike("arrows", longer, example_meter())

    def test_too_great(self):
        half = Meter(Chart([1, 5 * 10 ** 8], [(0, 1)]), 5 * 10 ** 11, [5 * 10 ** 11])
        self.assertEqual((half + half).chart.costs, (2, 10 ** 9))
        self.assertEqual((half + half).charges, (10 ** 12,))
        cost = Meter(Chart([1, 5 * 10 ** 8 + 1], [(0, 1)]), 10 ** 12, [10 ** 12])
        self.refuses(BadChart, {"what": "cost", "index": 1}, lambda: half + cost)
        turned = Meter(Chart([1, 10 ** 9], [(0, 1), (1, 0)]), 10 ** 12, [10 ** 12] * 2)
        self.unlike("arrows", half, turned)
        first = Meter(half.chart, 5 * 10 ** 11 + 1, [10 ** 12])
        self.refuses(BadMeter, {"what": "first", "index": 0}, lambda: half + first)
        charge = Meter(half.chart, 0, [5 * 10 ** 11 + 1])
        self.refuses(BadMeter, {"what": "charge", "index": 0}, lambda: half + charge)

    def test_other_things(self):
        for other in (1, None, example(), "6"):
            with self.assertRaises(TypeError):
                example_meter() + other
            with self.assertRaises(TypeError):
                other + example_meter()


if __name__ == "__main__":
    unittest.main()
