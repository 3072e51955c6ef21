"""[7.7] to [7.10]: limits of prices, spans of two prices, and the fewest arrows that are even at all prices."""

import unittest
from itertools import product
from math import gcd

from helping import BAD_LOTS, NO_SEQUENCES, Raises, all_lots, is_deep_tuple, place_subsets, random_kinds, ring_kinds
from helping import sample_kinds, sources
from purseahead.errors import BadLot, NotTwo, TooMany
from purseahead.kinds import KindChart, price_row
from purseahead.pricelimits import FewestKinds, Limit, Span, fewest_kinds, limit_fault, price_limits, ratio_span
from purseahead.pricing import EvenKinds, even_at, least_even_kinds


def plain_walks(chart, lot):
    """All simple closed walks without a step back along the lot, from each of their places on."""
    steps = [((arrow, "forward"), tail, head) for arrow, (tail, head) in enumerate(chart.arrows)]
    steps += [((arrow, "back"), head, tail) for arrow, (tail, head) in enumerate(chart.arrows) if arrow not in lot]
    walks = []

    def go_on(start, place, passed, walk):
        for step, left, reached in steps:
            if left == place and reached == start:
                walks.append(walk + (step,))
            elif left == place and reached not in passed:
                go_on(start, reached, passed | {reached}, walk + (step,))

    for start in range(len(chart)):
        go_on(start, start, {start}, ())
    return walks


def walk_row(chart, walk):
    row = [0] * chart.kinds
    for arrow, sense in walk:
        for kind, number in enumerate(chart.rows[chart.arrows[arrow][0]]):
            row[kind] += number if sense == "back" else -number
    return tuple(row)


def plain_limits(chart, lot):
    """The rows of the limits, by going through all simple closed walks."""
    rows = {walk_row(chart, walk) for walk in plain_walks(chart, lot)}
    rows = {row for row in rows if any(number > 0 for number in row)}
    return sorted(row for row in rows if not any(
        top != row and all(a <= b for a, b in zip(row, top)) for top in rows))


def many_arrows(count, kinds=2):
    """A chart of three places and that many arrows."""
    return KindChart([(1,) * kinds, (2,) * kinds, (0,) * kinds], [(at % 3, (at + 1) % 3) for at in range(count)])


def fan(source, kinds):
    """Three ways from place 0 to the last one, through places with rows of their own: many limits."""
    rows = [[source.randint(0, 3) for _ in range(kinds)] for _ in range(5)]
    return KindChart(rows, [(0, 1), (0, 2), (0, 3), (1, 4), (2, 4), (3, 4)])


def some_charts(count, kinds=None):
    """Random charts and fans, of as many kinds or of 1, 2 and 3 in turn."""
    charts = [random_kinds(source, kinds or at % 3 + 1, 3, most_places=4, most_arrows=5)
              for at, source in enumerate(sources(count))]
    return charts + [fan(source, kinds or 3) for source in sources(3)]


class Limits(Raises, unittest.TestCase):
    def test_example(self):
        self.assertEqual([limit.row for limit in price_limits(sample_kinds(), (2,))], [(0, 2)])
        self.assertEqual(sorted(price_limits(sample_kinds(), (2,))[0].steps),
                         [(0, "back"), (1, "back"), (2, "forward")])
        self.assertEqual(price_limits(sample_kinds(), [1]), ())
        self.assertEqual(price_limits(KindChart([[3]], []), ()), ())
        self.assertEqual(price_limits(KindChart([[3, 1]], [(0, 0)]), ()), (Limit((3, 1), ((0, "back"),)),))

    def test_all_lots(self):
        told = 0
        for chart in some_charts(45):
            for lot in all_lots(chart):
                found = price_limits(chart, list(lot))
                self.assertEqual([limit.row for limit in found], plain_limits(chart, lot))
                told = max(told, len(found))
                for limit in found:
                    self.assertIsNone(limit_fault(chart, lot, limit))
                    self.assertEqual(walk_row(chart, limit.steps), limit.row)
                    self.assertTrue(is_deep_tuple(limit.row) and is_deep_tuple(limit.steps))
                self.assertIsInstance(found, tuple)
                self.check_prices(chart, lot, [limit.row for limit in found])
        self.assertGreater(told, 2)

    def check_prices(self, chart, lot, rows):
        for prices in product((0, 1, 3), repeat=chart.kinds):
            self.assertEqual(even_at(chart, lot, prices), all(price_row(prices, row) <= 0 for row in rows))
        self.assertEqual(rows == [], isinstance(least_even_kinds(chart, lot), EvenKinds))

    def test_eight_arrows(self):
        for source in sources(6):
            chart = random_kinds(source, 3, 5, most_places=9, most_arrows=8)
            while len(chart.arrows) < 8:
                chart = random_kinds(source, 3, 5, most_places=9, most_arrows=8)
            for lot in ((), (0,), (1, 4), (0, 2, 5, 6, 7)):
                self.assertEqual([limit.row for limit in price_limits(chart, lot)], plain_limits(chart, lot))

    def test_refused(self):
        for work in (price_limits, lambda chart, lot: limit_fault(chart, lot, None)):
            for index, wrong in BAD_LOTS:
                self.refuses(BadLot, {"index": index}, work, sample_kinds(), wrong)
                self.refuses(BadLot, {"index": index}, work, many_arrows(9), wrong)
        self.refuses(TooMany, {"count": 9}, price_limits, many_arrows(9), ())
        self.refuses(TooMany, {"count": 32}, price_limits, many_arrows(32), (1, 31))
        self.assertEqual([limit.row for limit in price_limits(many_arrows(8), ())], plain_limits(many_arrows(8), ()))


class LimitFaults(unittest.TestCase):
    def judge(self, row, steps, lot=(2,)):
        return limit_fault(sample_kinds(), lot, Limit(row, steps))

    def test_words(self):
        right = ((2, "forward"), (1, "back"), (0, "back"))
        self.assertIsNone(self.judge((0, 2), right))
        self.assertIsNone(self.judge((0, 2), right, [2]))
        self.assertIsNone(self.judge((0, 4), right * 2))
        self.assertIsNone(self.judge((0, 2), right[1:] + right[:1]))
        # It is not asked whether the row is a limit.
        self.assertIsNone(self.judge((0, 0), ((0, "forward"), (0, "back"))))
        self.assertIsNone(self.judge((0, -2), ((0, "forward"), (1, "forward"), (2, "back")), ()))
        for steps in (list(right), *NO_SEQUENCES, (right[0], None), (right[0], [1, "back"]), ((3, "back"),),
                      ((True, "back"),), ((0, "Back"),), ((0, "back", 1),)):
            self.assertEqual(self.judge((0, 2), steps), "step")
        for steps in ((), right[:2], (right[0], right[2], right[1]), ((2, "forward"), (0, "back"))):
            self.assertEqual(self.judge((0, 2), steps), "closed")
        self.assertEqual(self.judge((1, 0), ((2, "forward"), (2, "back"))), "sense")
        self.assertEqual(self.judge((0, 2), right, (0,)), "sense")
        for row in ([0, 2], (0, 2, 0), (0,), (), None, 2, (False, 2), (0, 2.0), ("0", 2), (0, 1), (1, 2), (0, 3), (0, -2)):
            self.assertEqual(self.judge(row, right), "row")

    def test_order(self):
        self.assertEqual(self.judge(None, [(0, "back")]), "step")
        self.assertEqual(self.judge(None, ((2, "back"),)), "closed")
        self.assertEqual(self.judge(None, ((2, "forward"), (2, "back"))), "sense")

    def test_one_kind(self):
        chart = KindChart([[2]], [(0, 0)])
        self.assertEqual(limit_fault(chart, (), Limit((True,), ((0, "back"),))), "row")
        one = KindChart([[1]], [(0, 0)])
        self.assertEqual(limit_fault(one, (), Limit((True,), ((0, "back"),))), "row")
        self.assertIsNone(limit_fault(one, (), Limit((1,), ((0, "back"),))))
        self.assertEqual(limit_fault(one, (0,), Limit((1,), ((0, "back"),))), "sense")


class Spans(Raises, unittest.TestCase):
    def test_example(self):
        self.assertEqual(ratio_span(sample_kinds(), (2,)), Span((1, 0), (1, 0)))
        self.assertEqual(ratio_span(sample_kinds(), [1]), Span((1, 0), (0, 1)))
        self.assertIsNone(ratio_span(KindChart([(3, 1)], [(0, 0)]), ()))
        self.assertEqual(ratio_span(KindChart([(3, 0)], [(0, 0)]), ()), Span((0, 1), (0, 1)))
        self.assertEqual(ratio_span(KindChart([(0, 3)], [(0, 0)]), ()), Span((1, 0), (1, 0)))
        self.assertEqual(ratio_span(KindChart([(0, 3)], [(0, 0)]), (0,)), Span((1, 0), (0, 1)))
        # Both prices must be 0 if each one must be.
        both = KindChart([(0, 3), (1, 0)], [(0, 0), (0, 1), (1, 1)])
        self.assertIsNone(ratio_span(both, (1,)))

    def test_narrow(self):
        # Two ways to place 3: one through (4, 0), one through (0, 6); arrow 3 may charge after the first one alone.
        def chart(one, other):
            return KindChart([(0, 0), one, other, (0, 0)], [(0, 1), (0, 2), (1, 3), (2, 3)])

        self.assertEqual(ratio_span(chart((4, 0), (0, 6)), ()), Span((3, 2), (3, 2)))
        self.assertEqual(ratio_span(chart((4, 0), (0, 6)), (2,)), Span((1, 0), (3, 2)))
        self.assertEqual(ratio_span(chart((4, 0), (0, 6)), (3,)), Span((3, 2), (0, 1)))
        self.assertEqual(ratio_span(chart((999, 1), (0, 1000)), ()), Span((1, 1), (1, 1)))
        self.assertEqual(ratio_span(chart((1000, 0), (1, 999)), ()), Span((1, 1), (1, 1)))
        self.assertEqual(ratio_span(chart((997, 0), (0, 991)), ()), Span((991, 997), (991, 997)))
        self.assertIsNone(ratio_span(chart((4, 1), (3, 0)), ()))

    def test_several_limits_on_one_side(self):
        # Back leads through place 1 alone, forward through places 2 and 3: the differences of their rows are limits.
        def span(one, two, three):
            chart = KindChart([(0, 0), one, two, three, (0, 0)], [(0, 1), (0, 2), (0, 3), (1, 4), (2, 4), (3, 4)])
            return ratio_span(chart, (4, 5))

        self.assertEqual(span((2, 0), (1, 3), (0, 7)), Span((3, 1), (0, 1)))
        self.assertEqual(span((3, 0), (2, 5), (1, 7)), Span((7, 2), (0, 1)))
        self.assertEqual(span((0, 3), (7, 0), (3, 2)), Span((1, 0), (3, 7)))
        self.assertEqual(span((0, 3), (7, 1), (3, 2)), Span((1, 0), (1, 3)))
        self.assertEqual(span((2, 2), (0, 5), (8, 1)), Span((3, 2), (1, 6)))

    def test_all_lots(self):
        kinds_of_spans = set()
        for chart in some_charts(60, 2):
            for lot in all_lots(chart):
                span = ratio_span(chart, list(lot))
                rows = plain_limits(chart, lot)
                for x, y in product(range(13), repeat=2):
                    if (x, y) != (0, 0):
                        even = all(price_row((x, y), row) <= 0 for row in rows)
                        self.assertEqual(even, self.lies_in(span, x, y))
                if span is not None:
                    self.assertTrue(is_deep_tuple(span.low) and is_deep_tuple(span.high))
                    self.check_end(chart, lot, span.low)
                    self.check_end(chart, lot, span.high)
                    kinds_of_spans.add((span.low == (1, 0), span.high == (0, 1), span.low == span.high))
                else:
                    kinds_of_spans.add(None)
        self.assertGreaterEqual(len(kinds_of_spans), 7)

    def check_end(self, chart, lot, couple):
        self.assertEqual(gcd(*couple), 1)
        self.assertTrue(min(couple) >= 0)
        self.assertTrue(even_at(chart, lot, couple))

    def lies_in(self, span, x, y):
        if span is None:
            return False
        (a, b), (c, d) = span.low, span.high
        return b * x <= a * y and y * c <= d * x

    def test_refused(self):
        for kinds in (1, 3):
            for lot in ((), None, (99,)):
                self.refuses(NotTwo, {"kinds": kinds}, ratio_span, many_arrows(9, kinds), lot)
        for index, wrong in BAD_LOTS:
            self.refuses(BadLot, {"index": index}, ratio_span, many_arrows(9), wrong)
        self.refuses(TooMany, {"count": 9}, ratio_span, many_arrows(9), (1,))
        self.assertIsNone(ratio_span(many_arrows(8), ()))


class Fewest(Raises, unittest.TestCase):
    def test_ordinary(self):
        self.assertEqual(fewest_kinds(sample_kinds()), FewestKinds(1, (0,)))
        self.assertEqual(fewest_kinds(KindChart([[3, 3, 3]], [])), FewestKinds(0, ()))
        self.assertEqual(fewest_kinds(ring_kinds()), FewestKinds(2, (0, 2)))

    def test_all_charts(self):
        numbers = set()
        for chart in some_charts(60):
            first = next(lot for lot in place_subsets(len(chart.arrows)) if not plain_limits(chart, lot))
            self.assertEqual(fewest_kinds(chart), FewestKinds(len(first), first))
            self.assertIsInstance(fewest_kinds(chart).lot, tuple)
            numbers.add(len(first))
        self.assertGreaterEqual(numbers, {0, 1, 2})

    def test_many(self):
        for count in (9, 10, 32):
            self.refuses(TooMany, {"count": count}, fewest_kinds, many_arrows(count))
        found = fewest_kinds(many_arrows(8))
        self.assertEqual(found.number, len(found.lot))
        self.assertIsInstance(least_even_kinds(many_arrows(8), found.lot), EvenKinds)


if __name__ == "__main__":
    unittest.main()
