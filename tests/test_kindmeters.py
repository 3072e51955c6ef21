"""[7.3] and [7.4]: meters of kinds."""

import unittest
from itertools import product

from helping import BAD_RUNS, KIND_ARROWS, NO_NUMBERS, NO_SEQUENCES, Raises, is_deep_tuple, plain_runs, random_kinds
from helping import ring_kinds, sample_kinds, sources
from purseahead.charts import Chart
from purseahead.covering import Short, Uneven, even_leads, find_short, is_covered
from purseahead.drifts import Drift
from purseahead.errors import BadKindMeter, BadPrices, BadRun, NoKind
from purseahead.kindmeters import KindMeter, KindShort, KindUneven, even_rows, find_kind_short
from purseahead.kinds import KindChart, price_row
from purseahead.meters import Meter

ARROWS = KIND_ARROWS
CHARGES = ((0, 0), (0, 2), (0, 0))
MOST = 10 ** 8


def sample_meter(first=(1, 2), charges=CHARGES):
    """The kind meter of the document's example in part 7: only arrow 1 charges."""
    return KindMeter(sample_kinds(), first, charges)


def any_meter(source, kinds, most=3):
    chart = random_kinds(source, kinds, 2, most_places=3, most_arrows=4)
    row = lambda: [source.randint(0, most) for _ in range(kinds)]
    return KindMeter(chart, row(), [row() for _ in chart.arrows])


def even_meter(source, kinds):
    """A meter that follows rows of leads, covered or not."""
    while True:
        chart = random_kinds(source, kinds, 2, most_places=3, most_arrows=4)
        leads = [[source.randint(0, 4) for _ in range(kinds)] for _ in chart.rows]
        charges = [[leads[head][kind] - leads[tail][kind] + chart.rows[tail][kind] for kind in range(kinds)]
                   for tail, head in chart.arrows]
        if all(charge >= 0 for row in charges for charge in row):
            return KindMeter(chart, leads[0], charges)


class Building(Raises, unittest.TestCase):
    def test_kept(self):
        meter = sample_meter([1, 2], [[0, 0], [0, 2], [0, 0]])
        self.assertEqual(vars(meter), {"kindchart": sample_kinds(), "first": (1, 2), "charges": CHARGES})
        self.assertTrue(is_deep_tuple(meter.first) and is_deep_tuple(meter.charges))
        self.assertEqual(meter, sample_meter())
        self.assertEqual(meter.charged_arrows, (1,))
        self.assertEqual(sample_meter(charges=[(0, 1), (0, 0), (1, 0)]).charged_arrows, (0, 2))
        self.assertEqual(sample_meter(charges=[(0, 0)] * 3).charged_arrows, ())
        self.assertEqual(sample_meter((MOST, 0), [(MOST, MOST)] * 3).charged_arrows, (0, 1, 2))

    def test_equal(self):
        other = KindMeter(KindChart(((1, 0), (0, 2), (0, 1)), ARROWS), (1, 2), CHARGES)
        for one in (other, sample_meter((1, 1)), sample_meter(charges=((0, 0), (0, 2), (0, 1))), None, (), 1,
                    sample_kinds(), vars(sample_meter()), Meter(Chart((1, 0, 0), ARROWS), 1, (0, 0, 0))):
            self.assertFalse(sample_meter() == one)

    def test_arguments_stay(self):
        first, charges = [1, 2], [[0, 0], [0, 2], [0, 0]]
        meter = sample_meter(first, charges)
        first[0] = charges[0][0] = 7
        self.assertEqual(meter, sample_meter())

    def bad(self, index, first, charges):
        self.refuses(BadKindMeter, {"index": index}, KindMeter, sample_kinds(), first, charges)

    def test_refused(self):
        for wrong in (*NO_SEQUENCES, (), (1,), (1, 1, 1)):
            self.bad(-1, wrong, None)
            self.bad(0, (1, 2), [wrong] * 3)
            self.bad(2, [1, 2], [(0, 0), [0, 0], wrong])
        for wrong in (-1, MOST + 1, *NO_NUMBERS):
            self.bad(-1, (wrong, 0), None)
            self.bad(-1, [0, wrong], CHARGES)
            self.bad(0, (1, 2), [(wrong, 0), None, None])
            self.bad(1, (1, 2), [(0, 0), [0, wrong], [0, wrong]])
        for wrong in (*NO_SEQUENCES, (), CHARGES[:2], [*CHARGES, (0, 0)], [None] * 4):
            self.bad(3, (1, 2), wrong)
        self.refuses(BadKindMeter, {"index": 0}, KindMeter, KindChart([[1]], []), (1,), None)
        self.refuses(BadKindMeter, {"index": 5}, KindMeter, ring_kinds(), (1, 1), [(0, 0)] * 4)


class Leads(Raises, unittest.TestCase):
    def test_example(self):
        meter = sample_meter()
        self.assertEqual([meter.charged(run) for run in ((), (0,), [0, 1], (2,))], [(1, 2), (1, 2), (1, 4), (1, 2)])
        self.assertEqual([meter.lead_ahead(run) for run in ((), (0,), [0, 1], (2,))], [(1, 2), (0, 2), (0, 2), (0, 2)])
        self.assertEqual([meter.lead_behind(run) for run in ((), (0,), [0, 1])], [(0, 2), (0, 0), (0, 2)])
        self.assertEqual(sample_meter((0, 0)).lead_behind((0, 1)), (-1, 0))
        self.assertTrue(all(isinstance(work(()), tuple) for work in (meter.charged, meter.lead_ahead, meter.lead_behind)))

    def test_refused(self):
        meter = KindMeter(ring_kinds(), (0, 0), [(0, 0)] * 5)
        for work in (meter.charged, meter.lead_ahead, meter.lead_behind):
            for index, wrong in BAD_RUNS:
                self.refuses(BadRun, {"index": index}, work, wrong)
        for wrong in (-1, 2, *NO_NUMBERS):
            self.refuses(NoKind, {"kind": wrong}, meter.of_kind, wrong)
        for wrong in (*NO_SEQUENCES, (), (1,), (1, 1, 1)):
            self.refuses(BadPrices, {"index": 0}, meter.at_prices, wrong)
        for wrong in (-1, 1001, *NO_NUMBERS):
            self.refuses(BadPrices, {"index": 1}, meter.at_prices, (1, wrong))

    def test_meters(self):
        self.assertEqual(sample_meter().of_kind(0), Meter(Chart((1, 0, 0), ARROWS), 1, (0, 0, 0)))
        self.assertEqual(sample_meter().of_kind(1), Meter(Chart((0, 2, 0), ARROWS), 2, (0, 2, 0)))
        self.assertEqual(sample_meter().at_prices((3, 5)), Meter(Chart((3, 10, 0), ARROWS), 13, (0, 10, 0)))
        self.assertEqual(sample_meter().at_prices([0, 0]), Meter(Chart((0, 0, 0), ARROWS), 0, (0, 0, 0)))
        dear = KindMeter(KindChart([(1000,) * 3], [(0, 0)]), (MOST,) * 3, [(MOST,) * 3])
        self.assertEqual(dear.at_prices((1000,) * 3).charges, (3 * 10 ** 11,))

    def test_all_runs(self):
        for source in sources(30):
            kinds = source.randint(1, 3)
            meter = any_meter(source, kinds)
            for length in range(4):
                for run in plain_runs(meter.kindchart, length):
                    for name in ("charged", "lead_ahead", "lead_behind"):
                        told = getattr(meter, name)(run)
                        self.assertEqual(told, tuple(getattr(meter.of_kind(kind), name)(run) for kind in range(kinds)))
                        for prices in product((0, 1, 7), repeat=kinds):
                            self.assertEqual(getattr(meter.at_prices(prices), name)(run), price_row(prices, told))


class Shorts(unittest.TestCase):
    def test_ordinary(self):
        self.assertEqual(find_kind_short(sample_meter()), None)
        self.assertEqual(find_kind_short(sample_meter((0, 2))), KindShort(0, Short((), 1)))
        self.assertEqual(find_kind_short(sample_meter((1, 1))), KindShort(1, Short((0,), 1)))
        # The first kind is told, though the second one is short on a shorter run.
        both = KindMeter(ring_kinds(), (6, 0), [(0, 0), (5, 1), (0, 0), (5, 1), (0, 0)])
        self.assertEqual(find_kind_short(both), KindShort(0, Drift((2, 3), -1)))

    def test_all_prices(self):
        short = 0
        for source in sources(120):
            kinds = source.randint(1, 3)
            meter = any_meter(source, kinds, 4)
            found = find_kind_short(meter)
            covered = all(is_covered(meter.at_prices(prices)) for prices in product((0, 1, 3), repeat=kinds))
            self.assertEqual(found is None, covered)
            if found is not None:
                short += 1
                kind = next(kind for kind in range(kinds) if find_short(meter.of_kind(kind)) is not None)
                self.assertEqual(found, KindShort(kind, find_short(meter.of_kind(kind))))
        self.assertTrue(20 < short < 115)


class EvenRows(unittest.TestCase):
    def test_ordinary(self):
        self.assertEqual(even_rows(sample_meter()), ((1, 2), (0, 2), (0, 2)))
        self.assertTrue(is_deep_tuple(even_rows(sample_meter())))
        self.assertEqual(even_rows(sample_meter(charges=((0, 0), (0, 1), (0, 0)))), KindUneven(1, Uneven(2, (0, 1), (2,))))
        self.assertEqual(even_rows(sample_meter(charges=((1, 0), (0, 1), (0, 0)))), KindUneven(0, Uneven(2, (2,), (0, 1))))
        self.assertEqual(even_rows(KindMeter(KindChart([[4]], []), [3], [])), ((3,),))

    def test_all_meters(self):
        even = 0
        for source in sources(120):
            kinds = source.randint(1, 3)
            for meter in (any_meter(source, kinds, 1), even_meter(source, kinds)):
                found = even_rows(meter)
                leads = [even_leads(meter.of_kind(kind)) for kind in range(kinds)]
                if isinstance(found, tuple):
                    even += 1
                    self.assertEqual(found, tuple(zip(*leads)))
                    self.assertTrue(is_deep_tuple(found))
                    for length in range(4):
                        for run in plain_runs(meter.kindchart, length):
                            last = meter.kindchart.arrows[run[-1]][1] if run else 0
                            self.assertEqual(meter.lead_ahead(run), found[last])
                else:
                    kind = next(kind for kind in range(kinds) if isinstance(leads[kind], Uneven))
                    self.assertEqual(found, KindUneven(kind, leads[kind]))
        self.assertGreater(even, 119)

    def test_largest(self):
        rows = [(1, place, 1000) for place in range(16)]
        arrows = [(place, (place + by) % 16) for place in range(16) for by in (1, 3)]
        chart = KindChart(rows, arrows)
        plain = KindMeter(chart, rows[0], [rows[head] for _, head in arrows])
        self.assertEqual(even_rows(plain), tuple(rows))
        self.assertEqual(find_kind_short(plain), None)
        self.assertEqual(len(plain.charged_arrows), 32)


if __name__ == "__main__":
    unittest.main()
