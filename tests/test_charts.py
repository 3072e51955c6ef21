"""[1.1] to [1.4]: charts."""

import unittest

from helping import ARROWS, COSTS, NO_NUMBERS, NO_SEQUENCES, Raises, dense, example, is_deep_tuple, line, loop
from purseahead.charts import Chart, beside, check_arrow, check_place, renamed, scaled
from purseahead.errors import BadArrow, BadChart, BadFactor, BadMoves, BadPlace


class Making(Raises, unittest.TestCase):
    def bad(self, what, index, costs, arrows):
        self.refuses(BadChart, {"what": what, "index": index}, Chart, costs, arrows)

    def test_attributes(self):
        chart = example()
        self.assertEqual(chart.costs, COSTS)
        self.assertEqual(chart.arrows, ARROWS)
        self.assertEqual(vars(Chart(costs=[1], arrows=[])), {"costs": (1,), "arrows": ()})

    def test_lists_and_tuples(self):
        for costs in (COSTS, list(COSTS)):
            for arrows in (ARROWS, list(ARROWS), [list(arrow) for arrow in ARROWS],
                           tuple(list(arrow) for arrow in ARROWS)):
                chart = Chart(costs, arrows)
                self.assertEqual(chart, example())
                self.assertTrue(is_deep_tuple(chart.costs) and is_deep_tuple(chart.arrows))

    def test_nothing_is_kept(self):
        costs, arrows = list(COSTS), [list(arrow) for arrow in ARROWS]
        chart = Chart(costs, arrows)
        costs[0] = 9
        costs.append(9)
        arrows[0][0] = 3
        arrows.pop()
        self.assertEqual(chart, example())
        self.assertEqual((chart.costs, chart.arrows), (COSTS, ARROWS))

    def test_nothing_is_changed(self):
        costs, arrows = list(COSTS), [list(arrow) for arrow in ARROWS]
        Chart(costs, arrows)
        self.assertEqual((costs, arrows), (list(COSTS), [list(arrow) for arrow in ARROWS]))

    def test_numbers_of_places(self):
        self.assertEqual(len(Chart([0], [])), 1)
        self.assertEqual(len(line(16)), 16)
        self.bad("places", 0, [], [])
        self.bad("places", 0, (), ())
        self.bad("places", 0, [1] * 17, [(place, place + 1) for place in range(16)])

    def test_costs(self):
        self.assertEqual(Chart([0, 10 ** 9], [(0, 1)]).costs, (0, 10 ** 9))
        for wrong in (-1, 10 ** 9 + 1, *NO_NUMBERS):
            self.bad("cost", 0, [wrong, 1], [(0, 1)])
            self.bad("cost", 1, (1, wrong), [(0, 1)])
            self.bad("cost", 2, [1, 1, wrong, wrong], [])

    def test_numbers_of_arrows(self):
        self.assertEqual(Chart([1], []).arrows, ())
        self.assertEqual(len(Chart([1], [(0, 0)] * 32).arrows), 32)
        self.bad("arrows", 0, [1], [(0, 0)] * 33)

    def test_no_sequences(self):
        for wrong in NO_SEQUENCES:
            self.bad("places", 0, wrong, [])
            self.bad("arrows", 0, [1], wrong)

    def test_arrows(self):
        for wrong in (None, 3, True, "01", (0,), (0, 1, 0), (), (0, 2), (2, 0), (-1, 0), (0, -1), {0: 1, 1: 0}):
            self.bad("arrow", 0, [1, 1], [wrong, (0, 1)])
            self.bad("arrow", 1, [1, 1], [(0, 1), wrong, wrong])
        for wrong in NO_NUMBERS:
            self.bad("arrow", 1, [1, 1], [(0, 1), (wrong, 0)])
            self.bad("arrow", 1, [1, 1], [(0, 1), [0, wrong]])

    def test_reached(self):
        self.bad("reached", 1, [1, 1], [])
        self.bad("reached", 1, [1, 1], [(1, 0)])
        self.bad("reached", 2, [1, 1, 1, 1], [(0, 1), (2, 3), (3, 2)])
        self.bad("reached", 1, [1, 1, 1], [(0, 2), (1, 2)])
        backwards = Chart([1, 1, 1, 1], [(1, 2), (3, 1), (0, 3)])
        self.assertEqual(backwards.ends, (2,))
        # The longest way to a place, with the arrows in the order that is found last.
        self.assertEqual(len(Chart([1] * 16, [(at, at + 1) for at in range(14, -1, -1)])), 16)

    def test_first_word(self):
        self.bad("places", 0, [], None)
        self.bad("cost", 1, [1, -1], None)
        self.bad("cost", 0, [True], [(0, 5)])
        self.bad("arrows", 0, [1, 1], 7)
        self.bad("arrow", 1, [1, 1, 1], [(0, 0), (0, 3)])
        self.bad("cost", 0, [-1, -1], [(9, 9)])
        self.bad("arrows", 0, [1, 1], [None] * 33)


class Asking(Raises, unittest.TestCase):
    def test_ends(self):
        self.assertEqual(example().ends, (3,))
        self.assertEqual(Chart([1], []).ends, (0,))
        self.assertEqual(loop().ends, ())
        self.assertEqual(Chart([1, 1, 1], [(0, 2), (0, 1)]).ends, (1, 2))
        self.assertEqual(line(16).ends, (15,))

    def test_length_and_iteration(self):
        self.assertEqual(len(example()), 4)
        self.assertEqual(list(example()), list(ARROWS))
        self.assertEqual(tuple(Chart([1], [])), ())
        self.assertEqual(list(Chart([1, 1], [[0, 1], [1, 0]])), [(0, 1), (1, 0)])
        chart = example()
        self.assertEqual([list(chart), list(chart)], [list(ARROWS), list(ARROWS)])

    def test_outs_and_into(self):
        chart = example()
        self.assertEqual([chart.outs(place) for place in range(4)], [(0, 2, 4), (1,), (3,), ()])
        self.assertEqual([chart.into(place) for place in range(4)], [(1, 3), (0,), (2,), (4,)])
        self.assertEqual((loop().outs(0), loop().into(0)), ((0,), (0,)))
        alike = Chart([1, 1], [(0, 1), (0, 0), (0, 1)])
        self.assertEqual((alike.outs(0), alike.into(1), alike.into(0)), ((0, 1, 2), (0, 2), (1,)))

    def test_check_place(self):
        chart = example()
        self.assertEqual([check_place(chart, place) for place in range(4)], [0, 1, 2, 3])
        self.assertEqual(check_place(line(16), 15), 15)
        for work in (check_place, Chart.outs, Chart.into):
            for wrong in (-1, 4, 10 ** 20, *NO_NUMBERS):
                self.refuses(BadPlace, {"place": wrong}, work, chart, wrong)

    def test_check_arrow(self):
        chart = example()
        self.assertEqual([check_arrow(chart, arrow) for arrow in range(5)], [0, 1, 2, 3, 4])
        self.assertEqual(check_arrow(dense(), 31), 31)
        for wrong in (-1, 5, *NO_NUMBERS):
            self.refuses(BadArrow, {"arrow": wrong}, check_arrow, chart, wrong)
        self.refuses(BadArrow, {"arrow": 0}, check_arrow, Chart([1], []), 0)

    def test_equal(self):
        self.assertTrue(example() == example())
        self.assertFalse(example() != example())
        self.assertNotEqual(example(), Chart((2, 3, 4, 2), ARROWS))
        self.assertNotEqual(example(), Chart(COSTS, ARROWS[::-1]))
        self.assertNotEqual(Chart([1], []), loop())
        for other in (None, COSTS, (COSTS, ARROWS), 4, "2 3 4 1"):
            self.assertFalse(example() == other)
            self.assertTrue(example() != other)


class Scaled(Raises, unittest.TestCase):
    def test_factors(self):
        self.assertEqual(scaled(example(), 3), Chart((6, 9, 12, 3), ARROWS))
        self.assertEqual(scaled(example(), 1), example())
        self.assertEqual(scaled(example(), 0), Chart((0, 0, 0, 0), ARROWS))
        self.assertEqual(scaled(example(), 1000).costs, (2000, 3000, 4000, 1000))
        self.assertEqual(scaled(Chart([10 ** 6], []), 1000).costs, (10 ** 9,))

    def test_refused(self):
        for wrong in (-1, 1001, *NO_NUMBERS):
            self.refuses(BadFactor, {}, scaled, example(), wrong)
        chart = Chart([1, 10 ** 6 + 1, 10 ** 9], [(0, 1), (1, 2)])
        self.refuses(BadChart, {"what": "cost", "index": 1}, scaled, chart, 1000)
        self.refuses(BadChart, {"what": "cost", "index": 2}, scaled, chart, 2)
        self.refuses(BadFactor, {}, scaled, chart, 1001)

    def test_the_chart_stays(self):
        chart = example()
        scaled(chart, 5)
        self.assertEqual(chart, example())


class Renamed(Raises, unittest.TestCase):
    def test_moves(self):
        chart = renamed(example(), (0, 3, 1, 2))
        self.assertEqual(chart, Chart((2, 4, 1, 3), ((0, 3), (3, 0), (0, 1), (1, 0), (0, 2))))
        self.assertEqual(renamed(example(), [0, 1, 2, 3]), example())
        self.assertEqual(renamed(loop(), (0,)), loop())

    def test_back(self):
        moves = [0, *range(15, 0, -1)]
        chart = dense()
        self.assertNotEqual(renamed(chart, moves), chart)
        self.assertEqual(renamed(renamed(chart, moves), moves), chart)
        self.assertEqual(moves, [0, *range(15, 0, -1)])

    def test_refused(self):
        for wrong in (*NO_SEQUENCES, (), (0, 1, 2), (0, 1, 2, 3, 4), (1, 0, 2, 3), (0, 1, 1, 3), (0, True, 2, 3),
                      (False, 1, 2, 3), (0, 1, 2, 4), (0, -1, 2, 3), (0, 1, None, 3), (0, 1, "2", 3), (0, [1], 2, 3),
                      (3, 2, 1, 0), ((0,), 1, 2, 3)):
            self.refuses(BadMoves, {}, renamed, example(), wrong)


class Beside(Raises, unittest.TestCase):
    def test_joined(self):
        joined = beside(example(), loop())
        self.assertEqual(joined.costs, (0, 2, 3, 4, 1, 1))
        self.assertEqual(joined.arrows, ((0, 1), (0, 5), (1, 2), (2, 1), (1, 3), (3, 1), (1, 4), (5, 5)))
        self.assertEqual(beside(Chart([7], []), Chart([8], [])), Chart([0, 7, 8], [(0, 1), (0, 2)]))

    def test_sizes(self):
        self.assertEqual(len(beside(line(8), line(7))), 16)
        self.refuses(BadChart, {"what": "places", "index": 0}, beside, line(8), line(8))
        full = Chart([1], [(0, 0)] * 30)
        self.assertEqual(len(beside(full, Chart([1], [])).arrows), 32)
        self.refuses(BadChart, {"what": "arrows", "index": 0}, beside, full, loop())
        self.refuses(BadChart, {"what": "places", "index": 0}, beside, dense(), dense())


if __name__ == "__main__":
    unittest.main()
