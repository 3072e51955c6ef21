"""[7.5] and [7.6]: lots that are even at all prices or at some."""

import unittest
from itertools import product

from helping import BAD_LOTS, NO_NUMBERS, NO_SEQUENCES, Raises, all_lots, is_deep_tuple, plain_runs, random_kinds
from helping import ring_kinds, sample_kinds, sources
from purseahead.errors import BadLot, BadPrices, BadRows, NotEven
from purseahead.evenness import BadWalk, Even, first_unmet, walk_fault
from purseahead.kindmeters import KindMeter, even_rows, find_kind_short
from purseahead.kinds import KindChart, price_row
from purseahead.leastmeters import least_even
from purseahead.pricing import EvenKinds, KindWalk, apart_prices, even_at, kind_meter, least_even_kinds

MOST = 10 ** 7


def small_kinds(count, **sizes):
    """Small charts of 1, 2 and 3 kinds, in turn."""
    sizes = {"most_places": 4, "most_arrows": 4, **sizes}
    return [random_kinds(source, at % 3 + 1, 2, **sizes) for at, source in enumerate(sources(count))]


def some_prices(chart, most):
    return list(product(range(most + 1), repeat=chart.kinds))


class LeastEven(Raises, unittest.TestCase):
    def test_example(self):
        self.assertEqual(least_even_kinds(sample_kinds(), (1,)), EvenKinds(((1, 2), (0, 2), (0, 2))))
        found = least_even_kinds(sample_kinds(), [2])
        self.assertEqual(found.kind, 1)
        self.assertEqual(sorted(found.steps), [(0, "back"), (1, "back"), (2, "forward")])
        self.assertEqual(least_even_kinds(KindChart([[4]], []), []), EvenKinds(((4,),)))
        self.assertEqual(least_even_kinds(KindChart([[4, 0, 9]], [(0, 0)]), [0]), EvenKinds(((4, 0, 9),)))

    def test_the_first_kind_is_told(self):
        chart = KindChart([(0, 1, 1)], [(0, 0)])
        self.assertEqual(least_even_kinds(chart, ()), KindWalk(1, ((0, "back"),)))
        self.assertEqual(apart_prices(chart, ()), (0, 1, 0))
        self.assertEqual(apart_prices(KindChart([(2, 0, 1)], [(0, 0)]), []), (1, 0, 0))
        self.assertEqual(apart_prices(KindChart([(0, 0, 1)], [(0, 0)]), []), (0, 0, 1))

    def test_all_lots_and_prices(self):
        seen = {EvenKinds: 0, KindWalk: 0}
        for chart in small_kinds(45):
            for lot in all_lots(chart):
                found = least_even_kinds(chart, list(lot))
                seen[type(found)] += 1
                apart = apart_prices(chart, lot)
                even = [prices for prices in some_prices(chart, 2) if isinstance(least_even(chart.at_prices(prices), lot), Even)]
                self.assertEqual([prices for prices in some_prices(chart, 2) if even_at(chart, lot, prices)], even)
                if isinstance(found, KindWalk):
                    self.check_walk(chart, lot, found, apart)
                else:
                    self.assertIsNone(apart)
                    self.assertEqual(even, some_prices(chart, 2))
                    self.check_rows(chart, lot, found.rows)
        self.assertTrue(all(number > 80 for number in seen.values()), seen)

    def check_walk(self, chart, lot, found, apart):
        unlike = [kind for kind in range(chart.kinds) if isinstance(least_even(chart.of_kind(kind), lot), BadWalk)]
        self.assertEqual(found.kind, unlike[0])
        self.assertIsNone(walk_fault(chart.of_kind(found.kind), lot, BadWalk(found.steps)))
        self.assertEqual(apart, tuple(int(kind == found.kind) for kind in range(chart.kinds)))
        self.assertFalse(even_at(chart, lot, apart))

    def check_rows(self, chart, lot, rows):
        self.assertTrue(is_deep_tuple(rows))
        for kind in range(chart.kinds):
            self.assertEqual(tuple(row[kind] for row in rows), least_even(chart.of_kind(kind), lot).leads)
        for prices in some_prices(chart, 2):
            priced = [price_row(prices, row) for row in rows]
            self.assertIsNone(first_unmet(chart.at_prices(prices), lot, priced))
            least = least_even(chart.at_prices(prices), lot).leads
            self.assertTrue(all(one <= other for one, other in zip(least, priced)))
            if sum(price > 0 for price in prices) <= 1:
                self.assertEqual(list(least), priced)

    def test_largest(self):
        rows = [(1000, 0, place) for place in range(16)]
        chart = KindChart(rows, [(place, (place + by) % 16) for place in range(16) for by in (1, 3)])
        self.assertEqual(least_even_kinds(chart, range_of(32)), EvenKinds(tuple(rows)))
        self.assertEqual(least_even_kinds(chart, ()).kind, 0)
        self.assertFalse(even_at(chart, (), (1000, 1000, 1000)))
        self.assertTrue(even_at(chart, range_of(32), [1000, 1000, 1000]))

    def test_refused(self):
        for index, wrong in BAD_LOTS:
            self.refuses(BadLot, {"index": index}, least_even_kinds, sample_kinds(), wrong)
            self.refuses(BadLot, {"index": index}, apart_prices, sample_kinds(), wrong)
            self.refuses(BadLot, {"index": index}, even_at, sample_kinds(), wrong, None)
        for wrong in (*NO_SEQUENCES, (), (1,), (1, 1, 1)):
            self.refuses(BadPrices, {"index": 0}, even_at, sample_kinds(), (1,), wrong)
        for wrong in (-1, 1001, *NO_NUMBERS):
            self.refuses(BadPrices, {"index": 1}, even_at, sample_kinds(), [1], (1, wrong))


def range_of(count):
    return tuple(range(count))


class EvenPrices(unittest.TestCase):
    def test_example(self):
        told = {prices: even_at(sample_kinds(), (2,), prices) for prices in product((0, 1, 1000), repeat=2)}
        self.assertEqual(told, {prices: prices[1] == 0 for prices in told})
        self.assertEqual(apart_prices(sample_kinds(), (2,)), (0, 1))
        self.assertIsNone(apart_prices(sample_kinds(), [1]))
        self.assertIs(even_at(sample_kinds(), [2], [1000, 0]), True)
        self.assertIs(even_at(sample_kinds(), [2], [0, 1000]), False)

    def test_sums_and_multiples(self):
        mixed = 0
        for chart in small_kinds(45, most_places=3, most_arrows=3):
            for lot in all_lots(chart):
                even = {prices for prices in some_prices(chart, 4) if even_at(chart, lot, prices)}
                self.assertIn((0,) * chart.kinds, even)
                mixed += 1 < len(even) < 5 ** chart.kinds
                for one in even:
                    for other in even:
                        total = tuple(a + b for a, b in zip(one, other))
                        self.assertTrue(max(total) > 4 or total in even)
        self.assertGreater(mixed, 10)


class KindMeters(Raises, unittest.TestCase):
    def test_example(self):
        rows = least_even_kinds(sample_kinds(), (1,)).rows
        self.assertEqual(kind_meter(sample_kinds(), rows), KindMeter(sample_kinds(), (1, 2), [(0, 0), (0, 2), (0, 0)]))
        self.assertEqual(kind_meter(sample_kinds(), rows).charged_arrows, (1,))

    def test_leads_are_the_rows(self):
        made = 0
        for source, chart in zip(sources(60), small_kinds(60)):
            rows = [[source.randint(0, 3) for _ in range(chart.kinds)] for _ in chart.rows]
            charges = [[rows[head][kind] - rows[tail][kind] + chart.rows[tail][kind] for kind in range(chart.kinds)]
                       for tail, head in chart.arrows]
            wrong = [arrow for arrow, row in enumerate(charges) if min(row) < 0]
            if wrong:
                self.refuses(NotEven, {"arrow": wrong[0]}, kind_meter, chart, rows)
                continue
            made += 1
            meter = kind_meter(chart, rows)
            self.assertEqual(meter, KindMeter(chart, rows[0], charges))
            for length in range(4):
                for run in plain_runs(chart, length):
                    last = chart.arrows[run[-1]][1] if run else 0
                    self.assertEqual(meter.lead_ahead(run), tuple(rows[last]))
        self.assertTrue(10 < made < 50)

    def test_least_rows_make_meters(self):
        for chart in small_kinds(30):
            for lot in all_lots(chart):
                found = least_even_kinds(chart, lot)
                if isinstance(found, EvenKinds):
                    meter = kind_meter(chart, found.rows)
                    self.assertTrue(set(meter.charged_arrows) <= set(lot))
                    self.assertIsNone(find_kind_short(meter))
                    self.assertEqual(even_rows(meter), found.rows)

    def test_edges(self):
        chart = KindChart([(0, 1000)], [(0, 0)])
        self.assertEqual(kind_meter(chart, [[MOST, 0]]), KindMeter(chart, (MOST, 0), [(0, 1000)]))
        two = KindChart([(1000,), (0,)], [(0, 1), (1, 0)])
        self.refuses(NotEven, {"arrow": 1}, kind_meter, two, [(0,), (MOST,)])
        way = KindChart([(1000,), (0,)], [(0, 1)])
        self.assertEqual(kind_meter(way, [(0,), (MOST,)]), KindMeter(way, (0,), [(MOST + 1000,)]))

    def test_refused(self):
        for wrong in (*NO_SEQUENCES, (), [(0, 0)] * 2, [(0, 0)] * 4, [None] * 4):
            self.refuses(BadRows, {"index": 0}, kind_meter, sample_kinds(), wrong)
        for wrong in (*NO_SEQUENCES, (), (1,), (1, 1, 1)):
            self.refuses(BadRows, {"index": 0}, kind_meter, sample_kinds(), [wrong] * 3)
            self.refuses(BadRows, {"index": 2}, kind_meter, sample_kinds(), ((0, 0), [0, 0], wrong))
        for wrong in (-1, MOST + 1, *NO_NUMBERS):
            self.refuses(BadRows, {"index": 0}, kind_meter, sample_kinds(), [(wrong, 0), None, None])
            self.refuses(BadRows, {"index": 1}, kind_meter, sample_kinds(), [(0, 0), [0, wrong], (wrong, 0)])
        self.refuses(NotEven, {"arrow": 0}, kind_meter, sample_kinds(), [(0, 9), (0, 0), (0, 0)])
        self.refuses(NotEven, {"arrow": 1}, kind_meter, sample_kinds(), [(0, 0), (0, 9), (0, 0)])
        self.refuses(NotEven, {"arrow": 2}, kind_meter, sample_kinds(), [(1, 3), (0, 3), (0, 1)])
        # A row that is none is told ahead of a charge below 0.
        self.refuses(BadRows, {"index": 2}, kind_meter, sample_kinds(), [(0, 9), (0, 0), (0, True)])

    def test_arguments_stay(self):
        rows = [[1, 2], [0, 2], [0, 2]]
        meter = kind_meter(sample_kinds(), rows)
        rows[0][0] = 7
        self.assertEqual(meter.first, (1, 2))
        self.assertTrue(is_deep_tuple(meter.first) and is_deep_tuple(meter.charges))
        lot, prices = [1], [1, 1]
        least_even_kinds(ring_kinds(), lot)
        even_at(ring_kinds(), lot, prices)
        self.assertEqual((lot, prices), ([1], [1, 1]))


if __name__ == "__main__":
    unittest.main()
