"""[7.1] and [7.2]: charts of kinds and prices."""

import unittest
from itertools import product

from helping import BAD_RUNS, KIND_ARROWS, KIND_ROWS, NO_NUMBERS, NO_SEQUENCES, Raises, example, is_deep_tuple
from helping import plain_runs, random_kinds, sample_kinds, sources, visits
from purseahead.charts import Chart
from purseahead.errors import BadChart, BadKinds, BadPrices, BadRun, NoKind
from purseahead.kinds import KindChart, check_prices, price_row, used_by_kind
from purseahead.runs import used_by

ROWS, ARROWS = KIND_ROWS, KIND_ARROWS


class Building(Raises, unittest.TestCase):
    def test_kept(self):
        chart = KindChart([list(row) for row in ROWS], [list(arrow) for arrow in ARROWS])
        self.assertEqual(vars(chart), {"rows": ROWS, "arrows": ARROWS, "kinds": 2})
        self.assertTrue(is_deep_tuple(chart.rows) and is_deep_tuple(chart.arrows))
        self.assertEqual(chart, sample_kinds())
        self.assertEqual(len(chart), 3)
        for kinds in (1, 2, 3):
            self.assertEqual(KindChart([(1000,) * kinds] * 16, [(at, at + 1) for at in range(15)]).kinds, kinds)
        self.assertEqual(len(KindChart([[0]], [])), 1)

    def test_equal(self):
        for other in (KindChart(((1, 0), (0, 2), (0, 1)), ARROWS), KindChart(ROWS, ARROWS[::-1]), None, ROWS, (), 3,
                      KindChart([row[:1] for row in ROWS], ARROWS), Chart((1, 0, 0), ARROWS), vars(sample_kinds())):
            self.assertFalse(sample_kinds() == other)

    def test_arguments_stay(self):
        rows, arrows = [[1, 0], [0, 2], [0, 0]], [[0, 1], [1, 2], [0, 2]]
        chart = KindChart(rows, arrows)
        rows[0][0] = arrows[0][1] = 2
        rows.append([1, 1])
        self.assertEqual(chart, sample_kinds())

    def bad(self, what, index, rows, arrows=None):
        self.refuses(BadKinds, {"what": what, "index": index}, KindChart, rows, arrows)

    def test_rows(self):
        for wrong in (*NO_SEQUENCES, (), [(1,)] * 17):
            self.bad("rows", 0, wrong)

    def test_row(self):
        for wrong in (*NO_SEQUENCES, (), (1, 2, 3, 4)):
            self.bad("row", 0, [wrong, wrong])
            self.bad("row", 1, [(1, 2), wrong, wrong])
        for wrong in (-1, 1001, *NO_NUMBERS):
            self.bad("row", 0, [(wrong,), (wrong,)])
            self.bad("row", 0, [[0, wrong]])
            self.bad("row", 2, [(1, 2), (0, 1000), [3, wrong], None])
        self.bad("row", 1, [(1, 2), (1,)])
        self.bad("row", 2, [(1,), (1,), (1, 2)])
        # The lengths and the numbers are checked place by place.
        self.bad("row", 1, [(1, 2), (1, -1), (1,)])
        self.bad("row", 1, [(1, 2), (1,), (1, -1)])

    def test_arrows(self):
        def bad(what, index, rows, arrows):
            self.refuses(BadChart, {"what": what, "index": index}, KindChart, rows, arrows)

        for wrong in (*NO_SEQUENCES, [(0, 1)] * 33):
            bad("arrows", 0, ROWS, wrong)
        for wrong in (None, 3, (), (0,), (0, 1, 2), (0, 3), (-1, 0), (True, 0), (0, "1"), "01"):
            bad("arrow", 0, ROWS, (wrong,))
            bad("arrow", 2, ROWS, [(0, 1), (1, 2), wrong, wrong])
        bad("reached", 1, ROWS, ((0, 2),))
        bad("reached", 2, ROWS, ((0, 1), (2, 1)))
        bad("arrow", 1, ROWS, ((0, 2), (0, 9)))
        self.assertEqual(len(KindChart(ROWS, [(0, 1), (1, 2)] * 16).arrows), 32)


class Prices(Raises, unittest.TestCase):
    def test_of_kind(self):
        self.assertEqual(sample_kinds().of_kind(0), Chart((1, 0, 0), ARROWS))
        self.assertEqual(sample_kinds().of_kind(1), Chart((0, 2, 0), ARROWS))
        for wrong in (-1, 2, *NO_NUMBERS):
            self.refuses(NoKind, {"kind": wrong}, sample_kinds().of_kind, wrong)

    def test_at_prices(self):
        self.assertEqual(sample_kinds().at_prices((3, 5)), Chart((3, 10, 0), ARROWS))
        self.assertEqual(sample_kinds().at_prices([0, 1000]), Chart((0, 2000, 0), ARROWS))
        dear = KindChart([(1000, 1000, 1000)], [])
        self.assertEqual(dear.at_prices((1000, 1000, 1000)).costs, (3 * 10 ** 6,))

    def test_check(self):
        for prices in ((0, 0), [1000, 1], (1, 1000)):
            self.assertEqual(check_prices(sample_kinds(), prices), tuple(prices))
            self.assertIsInstance(check_prices(sample_kinds(), prices), tuple)

    def test_refused(self):
        for work in (check_prices, lambda chart, prices: chart.at_prices(prices)):
            for wrong in (*NO_SEQUENCES, (), (1,), (1, 1, 1), [None] * 3):
                self.refuses(BadPrices, {"index": 0}, work, sample_kinds(), wrong)
            for wrong in (-1, 1001, *NO_NUMBERS):
                self.refuses(BadPrices, {"index": 0}, work, sample_kinds(), (wrong, wrong))
                self.refuses(BadPrices, {"index": 1}, work, sample_kinds(), [1, wrong])

    def test_price_row(self):
        self.assertEqual(price_row((3, 5), (2, 4)), 26)
        self.assertEqual(price_row([3, 5, 7], [0, 0, 1]), 7)
        self.assertEqual(price_row((3, 5), (-2, 1)), -1)
        self.assertEqual(price_row([10], (10 ** 20,)), 10 ** 21)

    def test_used(self):
        self.assertEqual(used_by_kind(sample_kinds(), (0, 1)), (1, 2))
        self.assertEqual(used_by_kind(sample_kinds(), [2]), (1, 0))
        self.assertEqual(used_by_kind(sample_kinds(), ()), (1, 0))
        self.assertIsInstance(used_by_kind(sample_kinds(), ()), tuple)
        chart = KindChart([(cost, 1) for cost in example().costs], example().arrows)
        for index, wrong in BAD_RUNS:
            self.refuses(BadRun, {"index": index}, used_by_kind, chart, wrong)
        self.assertEqual(used_by_kind(KindChart([(1, 2, 1000)], [(0, 0)]), (0,) * 400), (401, 802, 401000))

    def test_all_runs(self):
        for source in sources(30):
            kinds = source.randint(1, 3)
            chart = random_kinds(source, kinds, most_places=3, most_arrows=4)
            for length in range(4):
                for run in plain_runs(chart, length):
                    told = used_by_kind(chart, run)
                    places = visits(chart, run)
                    self.assertEqual(told, tuple(sum(chart.rows[place][kind] for place in places)
                                                 for kind in range(kinds)))
                    for prices in product((0, 1, 5), repeat=kinds):
                        self.assertEqual(used_by(chart.at_prices(prices), run), price_row(prices, told))
            for kind in range(kinds):
                one = [int(other == kind) for other in range(kinds)]
                self.assertEqual(chart.of_kind(kind), chart.at_prices(one))


if __name__ == "__main__":
    unittest.main()
