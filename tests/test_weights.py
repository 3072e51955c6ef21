"""[4.9] to [4.13] and [4.20]: weights, the cheapest lot, shares, the trade of arrows for leads."""

import unittest

from helping import NO_NUMBERS, NO_SEQUENCES, Raises, all_lots, dense, example, is_deep_tuple, line, loop
from helping import random_chart, sources
from purseahead.charts import Chart
from purseahead.errors import BadMost, BadWeights, TooMany, TooTight
from purseahead.evenness import BadWalk
from purseahead.fewest import fewest, find_claims
from purseahead.leastmeters import least_even
from purseahead.weights import Cheapest, Shares, Trade, check_weights, cheapest, share_out, trade_front


def two_rounds(count):
    """The example's arrows again and again, up to that many."""
    return Chart([2, 3, 4, 1], (example().arrows * 3)[:count])


def small_cases(count):
    """Small charts with weights, some of them 0, and some mosts."""
    for source in sources(count):
        chart = random_chart(source, most_places=4, most_arrows=5, most_cost=3)
        weights = [source.choice((0, 1, 1, 2, 3, 7)) for _ in chart.arrows]
        for most in (None, max(chart.costs), max(chart.costs) + 2, max(chart.costs) + source.randint(0, 9)):
            yield chart, weights, most


def even_lots(chart, most):
    lots = []
    for lot in sorted(all_lots(chart), key=lambda lot: (len(lot), lot)):
        found = least_even(chart, lot)
        if not isinstance(found, BadWalk) and (most is None or max(found.leads) <= most):
            lots.append(lot)
    return lots


class Weights(Raises, unittest.TestCase):
    def test_taken(self):
        for weights in ((0, 1, 2, 3, 4), [10 ** 6] * 5, [0] * 5):
            self.assertEqual(check_weights(example(), weights), tuple(weights))
            self.assertIsInstance(check_weights(example(), weights), tuple)
        self.assertEqual(check_weights(Chart([1], []), []), ())

    def test_refused(self):
        works = (check_weights, cheapest, share_out, lambda chart, weights: cheapest(chart, weights, most=-1),
                 lambda chart, weights: share_out(chart, weights, most=True))
        for work in works:
            for wrong in (*NO_SEQUENCES, (), (1,) * 4, [1] * 6, [None] * 6):
                self.refuses(BadWeights, {"index": 0}, work, example(), wrong)
            for wrong in (-1, 10 ** 6 + 1, *NO_NUMBERS):
                self.refuses(BadWeights, {"index": 0}, work, example(), (wrong, 1, 1, 1, 1))
                self.refuses(BadWeights, {"index": 3}, work, example(), [1, 1, 1, wrong, wrong])

    def test_order(self):
        eleven = two_rounds(11)
        for work in (cheapest, share_out):
            asked = lambda chart, weights, most, work=work: work(chart, weights, most=most)
            self.refuses(BadWeights, {"index": 2}, asked, eleven, [1, 1, -1] + [1] * 8, -1)
            self.refuses(BadWeights, {"index": 0}, asked, example(), None, 3)
            for wrong in (-1, *[wrong for wrong in NO_NUMBERS if wrong is not None]):
                self.refuses(BadMost, {"most": wrong}, asked, eleven, [1] * 11, wrong)
            self.refuses(TooMany, {"count": 11}, asked, eleven, [1] * 11, 0)
            self.refuses(TooMany, {"count": 11}, asked, eleven, [1] * 11, None)
            self.refuses(TooTight, {"place": 2}, asked, two_rounds(10), [1] * 10, 3)


class CheapestLots(unittest.TestCase):
    def test_example(self):
        self.assertEqual(cheapest(example(), (1, 1, 1, 1, 1)), Cheapest(2, (0, 2)))
        self.assertEqual(cheapest(example(), [5, 1, 2, 1, 0]), Cheapest(2, (1, 3)))
        self.assertEqual(cheapest(example(), (3, 3, 2, 2, 9)), Cheapest(5, (0, 2)))
        self.assertEqual(cheapest(example(), (0, 0, 0, 0, 0)), Cheapest(0, (0, 2)))
        self.assertEqual(cheapest(example(), (0, 10 ** 6, 10 ** 6, 10 ** 6, 0), most=5),
                         Cheapest(2 * 10 ** 6, (0, 2, 3, 4)))
        self.assertEqual(cheapest(line(3), (5, 5)), Cheapest(0, ()))

    def test_all_lots(self):
        for chart, weights, most in small_cases(50):
            before = list(weights)
            total, _, lot = min((sum(weights[arrow] for arrow in lot), len(lot), lot) for lot in even_lots(chart, most))
            self.assertEqual(cheapest(chart, weights, most=most), Cheapest(total, lot))
            self.assertEqual(weights, before)


class SharedOut(unittest.TestCase):
    def test_example(self):
        self.assertEqual(share_out(example(), (1, 1, 1, 1, 1)), Shares((((0, 1), 1), ((2, 3), 1)), (0, 1, 2, 3), 2))
        self.assertEqual(share_out(example(), [5, 1, 2, 2, 0]), Shares((((0, 1), 1), ((2, 3), 2)), (1, 2, 3, 4), 3))
        self.assertEqual(share_out(example(), (0, 4, 2, 3, 1)), Shares((((2, 3), 2),), (0, 2), 2))
        self.assertEqual(share_out(line(3), (5, 0)), Shares((), (1,), 0))

    def test_in_the_order_of_claims(self):
        # With most 5 the claims are (2,), (3,), (0, 1), (1, 4): what (0, 1) takes is missing for (1, 4).
        found = share_out(example(), (2, 3, 4, 5, 6), most=5)
        self.assertEqual(found, Shares((((2,), 4), ((3,), 5), ((0, 1), 2), ((1, 4), 1)), (0, 1, 2, 3), 12))
        self.assertTrue(is_deep_tuple(found.shares) and is_deep_tuple(found.spent))

    def test_all_lots(self):
        for chart, weights, most in small_cases(50):
            left = list(weights)
            shares = []
            for claim in find_claims(chart, most=most):
                share = min(left[arrow] for arrow in claim.arrows)
                for arrow in claim.arrows:
                    left[arrow] -= share
                if share:
                    shares.append((claim.arrows, share))
            spent = tuple(arrow for arrow in range(len(left)) if left[arrow] == 0)
            found = share_out(chart, weights, most=most)
            self.assertEqual(found, Shares(tuple(shares), spent, sum(share for _, share in shares)))
            lots = even_lots(chart, most)
            self.assertIn(found.spent, lots)
            total = min(sum(weights[arrow] for arrow in lot) for lot in lots)
            most_arrows = max([len(claim.arrows) for claim in find_claims(chart, most=most)], default=0)
            self.assertLessEqual(found.total, total)
            self.assertLessEqual(total, found.total * most_arrows)

    def test_weights_one(self):
        for chart, _, most in small_cases(30):
            found = share_out(chart, [1] * len(chart.arrows), most=most)
            self.assertEqual(tuple(arrows for arrows, _ in found.shares), fewest(chart, most=most).floor)


class Trades(Raises, unittest.TestCase):
    def test_example(self):
        self.assertEqual(trade_front(example()), (Trade(2, 6, (1, 3)), Trade(3, 5, (1, 2, 3)),
                                                  Trade(4, 4, (0, 1, 2, 3))))
        self.assertTrue(is_deep_tuple(tuple(trade.lot for trade in trade_front(example()))))
        self.assertEqual(trade_front(loop()), (Trade(1, 1, (0,)),))
        self.assertEqual(trade_front(Chart([7], [])), (Trade(0, 7, ()),))
        self.assertEqual(trade_front(line(3)), (Trade(0, 3, ()), Trade(1, 2, (0,)), Trade(2, 1, (0, 1))))

    def plain_front(self, chart):
        found = {}
        for lot in even_lots(chart, None):
            greatest = max(least_even(chart, lot).leads)
            found.setdefault(len(lot), []).append((greatest, lot))
        front = []
        for number in sorted(found):
            greatest, lot = min(found[number])
            if not front or greatest < front[-1].greatest:
                front.append(Trade(number, greatest, lot))
        return tuple(front)

    def test_all_lots(self):
        for source in sources(50):
            chart = random_chart(source, most_places=4, most_arrows=6, most_cost=4)
            front = trade_front(chart)
            self.assertEqual(front, self.plain_front(chart))
            self.assertEqual(front[0].number, fewest(chart).number)
            self.assertEqual(front[-1].greatest, max(chart.costs))

    def test_front_tells_the_fewest(self):
        for source in sources(25):
            chart = random_chart(source, most_places=4, most_arrows=5, most_cost=4)
            front = trade_front(chart)
            for most in range(max(chart.costs), front[0].greatest + 3):
                first = next(trade for trade in front if trade.greatest <= most)
                self.assertEqual(fewest(chart, most=most).number, first.number)

    def test_eight_and_nine(self):
        self.assertEqual(len(two_rounds(8).arrows), 8)
        self.assertEqual(trade_front(two_rounds(8)), self.plain_front(two_rounds(8)))
        for count in (9, 10, 11):
            self.refuses(TooMany, {"count": count}, trade_front, two_rounds(count))
        self.refuses(TooMany, {"count": 32}, trade_front, dense())


class Largest(unittest.TestCase):
    def test_ten_arrows(self):
        chart = two_rounds(10)
        weights = [10 ** 6] * 10
        self.assertEqual(cheapest(chart, weights), Cheapest(4 * 10 ** 6, (0, 2, 5, 7)))
        found = share_out(chart, weights)
        self.assertEqual((found.total, found.spent), (4 * 10 ** 6, (0, 1, 2, 3, 5, 6, 7, 8)))
        long = line(11)
        self.assertEqual(cheapest(long, [1] * 10, most=1), Cheapest(10, tuple(range(10))))
        self.assertEqual(share_out(long, [1] * 10, most=1).total, 10)
        self.assertEqual(cheapest(long, list(range(10)), most=6), Cheapest(4, (4,)))


if __name__ == "__main__":
    unittest.main()
