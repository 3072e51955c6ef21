"""[3.13] to [3.15]: bounded meters, needs, covering meters."""

import unittest
from itertools import product

from helping import COSTS, NO_NUMBERS, NO_SEQUENCES, Raises, all_lots, dense, example, example_meter, is_deep_tuple
from helping import ladder, line, loop, random_chart, sources
from purseahead.bounded import Bounded, Endless, Need, all_needs, bounded_fault, bounded_meter, covering_meter
from purseahead.bounded import need_from
from purseahead.charts import Chart
from purseahead.covering import is_covered, least_first
from purseahead.drifts import find_drift, find_fall
from purseahead.errors import BadLot, BadPlace
from purseahead.evenness import BadWalk, lot_demands, step_ends, walk_fault
from purseahead.leads import low_leads
from purseahead.leastmeters import least_even
from purseahead.meters import Meter
from purseahead.parts import check_ring, part_of, within_part

BAD_LOTS = [(0, wrong) for wrong in NO_SEQUENCES] + [(0, (5,)), (1, (1, 1)), (1, [3, 1]), (0, (True,)), (2, (0, 1, -1))]


def inner_rows(chart, lot, most):
    """All rows in a box that meet the demands, without the forward ones of arrows in no part."""
    told = [demand for demand in lot_demands(chart, lot)
            if demand[3][-1] != "forward" or within_part(chart, demand[3][0])]
    return [row for row in product(range(most + 1), repeat=len(chart))
            if all(row[place] >= (by if start is None else row[start] + by) for place, start, by, _ in told)]


def lot_meters(chart, lot, most):
    """All meters of the lot with small charges, without drift and with their least first charge."""
    for row in product(range(most + 1), repeat=len(lot)):
        charges = [0] * len(chart.arrows)
        for arrow, charge in zip(lot, row):
            charges[arrow] = charge
        meter = Meter(chart, 0, charges)
        if find_drift(meter) is None:
            yield meter.with_first(least_first(meter))


class BoundedMeters(Raises, unittest.TestCase):
    def check(self, chart, lot, found):
        """Judge a result from the points; return whether there is a meter."""
        if isinstance(found, BadWalk):
            self.assertEqual(walk_fault(chart, lot, found), None)
            parts = {part_of(chart, place) for step in found.steps for place in step_ends(chart, step)}
            self.assertEqual(len(parts), 1)
            self.assertNotIn(None, parts)
            self.assertTrue(is_deep_tuple(found.steps))
            return False
        self.assertIsInstance(found, Bounded)
        self.assertEqual(bounded_fault(chart, lot, found.meter), None)
        self.assertEqual(found.meter.first, found.lows[0])
        self.assertTrue(is_deep_tuple(found.lows) and is_deep_tuple(found.reasons))
        self.assertTrue(all(low >= least for low, least in zip(low_leads(found.meter), found.lows)))
        self.check_reasons(chart, lot, found)
        return True

    def check_reasons(self, chart, lot, found):
        self.assertEqual(len(found.reasons), len(chart))
        for place, reason in enumerate(found.reasons):
            passed = []
            while reason != ("cost",):
                self.assertNotIn(place, passed)
                passed.append(place)
                arrow, sense = reason
                start, end = step_ends(chart, reason)
                self.assertEqual(end, place)
                cost = chart.costs[chart.arrows[arrow][0]]
                if sense == "back":
                    self.assertNotIn(arrow, lot)
                    self.assertEqual(found.lows[place], found.lows[start] + cost)
                else:
                    self.assertTrue(within_part(chart, arrow))
                    self.assertEqual(found.lows[place], found.lows[start] - cost)
                place, reason = start, found.reasons[start]
            self.assertEqual(found.lows[place], chart.costs[place])

    def test_example(self):
        for lot in ((1, 3), [1, 3]):
            found = bounded_meter(example(), lot)
            self.assertTrue(self.check(example(), (1, 3), found))
            # Place 3 is in no part, so that it needs no more than its cost.
            self.assertEqual(found.lows, (6, 4, 4, 1))
            self.assertEqual(bounded_fault(example(), lot, example_meter()), None)
        for lot in ((), (1,), (3,), (4,), (0, 1, 4)):
            self.assertFalse(self.check(example(), lot, bounded_meter(example(), lot)))
        self.assertEqual(bounded_meter(loop(), ()), BadWalk(((0, "back"),)))

    def test_less_than_even(self):
        # Two ways to place 3 of unlike costs: no lot of the second arrows is even, but all are bounded.
        chart = Chart([1, 5, 2, 1], [(0, 1), (0, 2), (1, 3), (2, 3)])
        self.assertIsInstance(least_even(chart, ()), BadWalk)
        found = bounded_meter(chart, ())
        self.assertTrue(self.check(chart, (), found))
        self.assertEqual(found.lows, (7, 6, 3, 1))
        self.assertEqual(found.meter, Meter(chart, 7, (0, 0, 0, 0)))
        found = bounded_meter(chart, (2,))
        self.assertEqual((found.lows, found.meter.first), ((6, 5, 3, 1), 6))

    def test_small_charts(self):
        walks = 0
        for source in sources(60):
            chart = random_chart(source, most_places=3, most_arrows=4, most_cost=2)
            for lot in all_lots(chart):
                found = bounded_meter(chart, lot)
                if self.check(chart, lot, found):
                    rows = inner_rows(chart, lot, 6)
                    self.assertEqual(found.lows, tuple(min(row) for row in zip(*rows)))
                else:
                    walks += 1
                    self.assertEqual(inner_rows(chart, lot, 6), [])
        self.assertGreater(walks, 30)

    def test_all_meters(self):
        for source in sources(40):
            chart = random_chart(source, most_places=3, most_arrows=4, most_cost=2)
            for lot in all_lots(chart):
                if len(lot) > 3:
                    continue
                found = bounded_meter(chart, lot)
                meters = list(lot_meters(chart, lot, 4))
                if isinstance(found, BadWalk):
                    self.assertEqual(meters, [])
                    continue
                self.assertEqual(min(meter.first for meter in meters), found.meter.first)
                for meter in meters:
                    self.assertTrue(all(low >= least for low, least in zip(low_leads(meter), found.lows)))

    def test_even_meters_are_no_less(self):
        for source in sources(40):
            chart = random_chart(source)
            for lot in all_lots(chart):
                even = least_even(chart, lot)
                if not isinstance(even, BadWalk):
                    found = bounded_meter(chart, lot)
                    self.assertTrue(all(low <= lead for low, lead in zip(found.lows, even.leads)))

    def test_all_arrows(self):
        for chart in (example(), loop(), dense(), ladder(), line(16), Chart([0], [])):
            lot = tuple(range(len(chart.arrows)))
            found = bounded_meter(chart, lot)
            self.assertTrue(self.check(chart, lot, found))
            self.assertEqual(found.lows, chart.costs)

    def test_largest(self):
        for chart in (dense(), ladder()):
            for lot in ((), tuple(range(0, 32, 2)), tuple(range(1, 32)), (0, 5, 9, 20, 31), tuple(range(16, 32))):
                self.check(chart, lot, bounded_meter(chart, lot))
        dear = Chart([10 ** 9] * 16, ladder().arrows)
        found = bounded_meter(dear, (30, 31))
        self.assertEqual(found.lows, tuple(range(16 * 10 ** 9, 0, -10 ** 9)))
        self.assertTrue(self.check(dear, (30, 31), found))
        self.assertEqual(bounded_meter(line(16), ()).meter, Meter(line(16), 16, [0] * 15))

    def test_refused(self):
        for work in (bounded_meter, all_needs, covering_meter, lambda chart, lot: bounded_fault(chart, lot, None),
                     lambda chart, lot: need_from(chart, lot, None)):
            for index, wrong in BAD_LOTS:
                self.refuses(BadLot, {"index": index}, work, example(), wrong)


class JudgingBounded(unittest.TestCase):
    def fault(self, lot, first, charges, chart=None):
        return bounded_fault(example(), lot, Meter(chart or example(), first, charges))

    def test_right(self):
        for lot in ((1, 3), [1, 3], (1, 3, 4)):
            self.assertEqual(self.fault(lot, 6, (0, 5, 0, 6, 0)), None)
        # An arrow in no part may charge as it likes, as long as the first charge stays.
        self.assertEqual(self.fault((1, 3, 4), 6, (0, 5, 0, 6, 9)), None)

    def test_words(self):
        other = Chart((2, 3, 4, 2), example().arrows)
        self.assertEqual(self.fault((1, 3), 6, (0, 5, 0, 6, 0), other), "chart")
        self.assertEqual(self.fault((1,), 5, (0, 4, 0, 9, 0), other), "chart")
        self.assertEqual(self.fault((1,), 6, (0, 5, 0, 6, 0)), "lot")
        self.assertEqual(self.fault((1, 3), 0, (1, 5, 0, 9, 0)), "lot")
        self.assertEqual(self.fault((1, 3), 6, (0, 5, 0, 7, 0)), "drift")
        self.assertEqual(self.fault((1, 3), 0, (0, 4, 0, 6, 0)), "drift")
        self.assertEqual(self.fault((), 9, (0, 0, 0, 0, 0)), "drift")
        self.assertEqual(self.fault((1, 3), 5, (0, 5, 0, 6, 0)), "covered")
        self.assertEqual(self.fault((1, 3), 7, (0, 5, 0, 6, 0)), "first")
        self.assertEqual(self.fault((0, 1, 2, 3, 4), 6, (0, 5, 0, 6, 0)), "first")

    def test_just_the_least_first_charge(self):
        for source in sources(25):
            chart = random_chart(source, most_places=3, most_arrows=3, most_cost=2)
            for lot in all_lots(chart):
                found = bounded_meter(chart, lot)
                for row in product(range(4), repeat=len(chart.arrows)):
                    meter = Meter(chart, source.randint(0, 6), row)
                    right = (set(meter.charged_arrows) <= set(lot) and find_drift(meter) is None
                             and is_covered(meter) and meter.first == found.meter.first)
                    self.assertEqual(bounded_fault(chart, lot, meter) is None, right)


def plain_rows(chart, lot, place, length):
    """All rows of that many arrows, none of them in the lot, from the place on."""
    rows = [((), place)]
    for _ in range(length):
        rows = [(row + (arrow,), ends[1]) for row, at in rows for arrow, ends in enumerate(chart.arrows)
                if ends[0] == at and arrow not in lot]
    return [row for row, _ in rows]


def row_use(chart, place, row):
    return chart.costs[place] + sum(chart.costs[chart.arrows[arrow][1]] for arrow in row)


class Needs(Raises, unittest.TestCase):
    def check_endless(self, chart, lot, ring, place=None):
        self.assertEqual(check_ring(chart, ring), ring)
        self.assertTrue(is_deep_tuple(ring))
        self.assertFalse(set(ring) & set(lot))
        self.assertGreater(sum(chart.costs[chart.arrows[arrow][0]] for arrow in ring), 0)
        if place is not None:
            reached = {place}
            for _ in chart.costs:
                reached |= {head for at, (tail, head) in enumerate(chart.arrows) if tail in reached and at not in lot}
            self.assertIn(chart.arrows[ring[0]][0], reached)

    def test_example(self):
        for lot in ((1, 3), [1, 3]):
            self.assertEqual([need_from(example(), lot, place) for place in range(4)],
                             [Need(6, (2,)), Need(3, ()), Need(4, ()), Need(1, ())])
            self.assertEqual(all_needs(example(), lot), (6, 3, 4, 1))
        self.assertEqual(need_from(example(), (0, 3), 1), Need(9, (1, 2)))
        self.assertEqual(need_from(example(), (0, 1, 2, 3, 4), 2), Need(4, ()))
        self.assertEqual(need_from(loop(), (0,), 0), Need(1, ()))

    def test_endless(self):
        for place in range(3):
            found = need_from(example(), (), place)
            self.assertIsInstance(found, Endless)
            self.check_endless(example(), (), found.ring, place)
        self.assertEqual(need_from(example(), (), 3), Need(1, ()))
        self.assertEqual(need_from(loop(), (), 0), Endless((0,)))
        self.assertEqual(sorted(need_from(example(), (1,), 2).ring), [2, 3])
        # A ring that cannot be come to does not matter.
        chart = Chart([1, 1, 5], [(0, 1), (1, 1), (0, 2)])
        self.assertEqual(need_from(chart, (), 2), Need(5, ()))
        self.assertEqual(need_from(chart, (0,), 0), Need(6, (2,)))
        self.assertEqual(need_from(chart, (), 0), Endless((1,)))
        self.assertEqual(all_needs(chart, (0,)), Endless((1,)))

    def test_rings_without_use(self):
        chart = Chart([0, 0, 3], [(0, 1), (1, 0), (1, 2)])
        self.assertEqual(need_from(chart, (), 0), Need(3, (0, 2)))
        self.assertEqual(all_needs(chart, ()), (3, 3, 3))
        self.assertEqual(need_from(Chart([0], [(0, 0)]), (), 0), Need(0, ()))

    def test_shortest_then_least(self):
        chart = Chart([1, 2, 0, 2, 0], [(0, 2), (0, 1), (0, 3), (2, 1), (1, 4)])
        self.assertEqual(need_from(chart, (), 0), Need(3, (1,)))
        self.assertEqual(need_from(chart, (1,), 0), Need(3, (2,)))
        self.assertEqual(need_from(chart, (1, 2), 0), Need(3, (0, 3)))

    def test_small_charts(self):
        endless = 0
        for source in sources(60):
            chart = random_chart(source, most_places=4, most_arrows=5, most_cost=3)
            for lot in all_lots(chart):
                needs = []
                for place in range(len(chart)):
                    rows = [row for length in range(2 * len(chart)) for row in plain_rows(chart, lot, place, length)]
                    best = max(row_use(chart, place, row) for row in rows)
                    simple = max(row_use(chart, place, row) for row in rows if len(row) < len(chart))
                    found = need_from(chart, lot, place)
                    if best > simple:
                        endless += 1
                        self.check_endless(chart, lot, found.ring, place)
                        needs = None
                    else:
                        first = min((row for row in rows if row_use(chart, place, row) == best),
                                    key=lambda row: (len(row), row))
                        self.assertEqual(found, Need(best, first))
                        if needs is not None:
                            needs.append(best)
                if needs is None:
                    self.check_endless(chart, lot, all_needs(chart, lot).ring)
                else:
                    self.assertEqual(all_needs(chart, lot), tuple(needs))
        self.assertGreater(endless, 100)

    def test_largest(self):
        steps = Chart([1] * 16, ladder().arrows[:30])
        self.assertEqual(need_from(steps, (), 0), Need(16, tuple(range(0, 30, 2))))
        self.assertEqual(need_from(ladder(), [30, 31], 3).used, 13)
        self.assertEqual(all_needs(ladder(), (30, 31)), tuple(range(16, 0, -1)))
        self.check_endless(dense(), (), all_needs(dense(), ()).ring)
        for place in range(16):
            self.check_endless(dense(), (0,), need_from(dense(), (0,), place).ring, place)
        dear = Chart([10 ** 9] * 16, ladder().arrows)
        self.assertEqual(all_needs(dear, (30, 31))[0], 16 * 10 ** 9)

    def test_refused(self):
        for wrong in (-1, 4, *NO_NUMBERS):
            self.refuses(BadPlace, {"place": wrong}, need_from, example(), (1, 3), wrong)
            self.refuses(BadLot, {"index": 0}, need_from, example(), (9,), wrong)


class CoveringMeters(unittest.TestCase):
    def test_example(self):
        for lot in ((1, 3), [1, 3]):
            self.assertEqual(covering_meter(example(), lot), Meter(example(), 6, (0, 6, 0, 6, 0)))
        self.assertEqual(covering_meter(example(), (0, 1, 2, 3, 4)), Meter.plain(example()))
        self.assertIsInstance(covering_meter(example(), (1,)), Endless)
        self.assertEqual(covering_meter(Chart(COSTS, example().arrows), (1, 3)).charged_arrows, (1, 3))

    def test_small_charts(self):
        for source in sources(50):
            chart = random_chart(source, most_places=3, most_arrows=4, most_cost=2)
            for lot in all_lots(chart):
                needs = all_needs(chart, lot)
                meter = covering_meter(chart, lot)
                if isinstance(needs, Endless):
                    self.assertIsInstance(meter, Endless)
                    Needs.check_endless(self, chart, lot, meter.ring)
                else:
                    self.assertTrue(is_covered(meter))
                    self.assertEqual(meter.first, needs[0])
                    self.assertEqual(meter.charges, tuple(needs[head] if arrow in lot else 0
                                                          for arrow, (_, head) in enumerate(chart.arrows)))

    def test_all_meters(self):
        for source in sources(25):
            chart = random_chart(source, most_places=3, most_arrows=3, most_cost=2)
            for lot in all_lots(chart):
                needs = all_needs(chart, lot)
                for row in product(range(5), repeat=len(lot)):
                    charges = dict(zip(lot, row))
                    meter = Meter(chart, 0, [charges.get(arrow, 0) for arrow in range(len(chart.arrows))])
                    if find_fall(meter) is None:
                        self.assertIsInstance(needs, tuple)
                        lows = low_leads(meter.with_first(least_first(meter)))
                        self.assertTrue(all(low >= need for low, need in zip(lows, needs)))

    def test_largest(self):
        meter = covering_meter(ladder(), (30, 31))
        self.assertEqual(meter, Meter(ladder(), 16, [0] * 30 + [16, 16]))
        self.assertTrue(is_covered(meter))


if __name__ == "__main__":
    unittest.main()
