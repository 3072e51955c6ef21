"""[3.9] to [3.12] and [3.16]: least even meters."""

import unittest
from itertools import product

from helping import NO_NUMBERS, NO_SEQUENCES, Raises, all_lots, dense, example, example_meter, is_deep_tuple, ladder
from helping import line, loop, random_chart, sources
from purseahead.charts import Chart
from purseahead.covering import even_leads, is_metered
from purseahead.errors import BadHighs, BadLeads, BadLot, BadLows, BadPlace, NotEven
from purseahead.evenness import BadWalk, Even, check_leads, first_unmet, walk_fault, walk_places, walk_sum
from purseahead.leastmeters import Between, Pinch, chain_of, least_above, least_even, least_meter, leads_between
from purseahead.leastmeters import meter_of, pinch_fault, reasons_fault
from purseahead.meters import Meter

BAD_ROWS = (*NO_SEQUENCES, (), (0, 0, 0), (0,) * 5, [None] * 5)
WRONG_NUMBERS = (-1, 10 ** 11 + 1, *NO_NUMBERS)


def small_charts(count):
    for source in sources(count):
        yield source, random_chart(source, most_places=3, most_arrows=4, most_cost=2)


def even_rows(chart, lot, most):
    """All even and covered leads for the lot in a box."""
    return [row for row in product(range(most + 1), repeat=len(chart)) if first_unmet(chart, lot, row) is None]


def least_row(rows):
    return tuple(min(row) for row in zip(*rows))


def greatest_row(rows):
    return tuple(max(row) for row in zip(*rows))


class LeastEven(Raises, unittest.TestCase):
    def check(self, chart, lot, found):
        if isinstance(found, BadWalk):
            self.assertEqual(walk_fault(chart, lot, found), None)
            self.assertTrue(is_deep_tuple(found.steps))
        else:
            self.assertIsInstance(found, Even)
            self.assertEqual(reasons_fault(chart, lot, [0] * len(chart), found), None)
            self.assertTrue(is_deep_tuple(found.leads) and is_deep_tuple(found.reasons))
        return found

    def test_example(self):
        found = self.check(example(), (1, 3), least_even(example(), (1, 3)))
        self.assertEqual(found, Even((6, 4, 4, 4), ((2, "back"), (0, "forward"), ("cost",), (4, "forward"))))
        self.assertEqual(least_even(example(), [1, 3]), found)
        self.assertEqual(least_meter(example(), [1, 3]), example_meter())

    def test_bad_walks(self):
        for lot in ((), (1,), (3,), (4,), (0,), (2,), (0, 1, 4)):
            self.assertIsInstance(self.check(example(), lot, least_even(example(), lot)), BadWalk)
        self.assertEqual(least_even(loop(), ()), BadWalk(((0, "back"),)))
        self.assertEqual(least_meter(loop(), ()), BadWalk(((0, "back"),)))
        self.assertIsInstance(least_meter(example(), ()), BadWalk)

    def test_all_arrows(self):
        for chart in (example(), loop(), dense(), ladder(), line(16), Chart([0], [])):
            lot = tuple(range(len(chart.arrows)))
            found = self.check(chart, lot, least_even(chart, lot))
            self.assertEqual(found.leads, chart.costs)
            self.assertEqual(least_meter(chart, lot), Meter.plain(chart))

    def test_small_charts(self):
        walks = 0
        for _, chart in small_charts(60):
            for lot in all_lots(chart):
                found = self.check(chart, lot, least_even(chart, lot))
                rows = even_rows(chart, lot, 7)
                if isinstance(found, BadWalk):
                    walks += 1
                    self.assertEqual(rows, [])
                    self.assertEqual(least_meter(chart, lot), found)
                else:
                    self.assertEqual(found.leads, least_row(rows))
                    self.assertEqual(least_meter(chart, lot), meter_of(chart, found.leads))
        self.assertGreater(walks, 30)

    def test_growing_lots(self):
        for _, chart in small_charts(25):
            found = {lot: least_even(chart, lot) for lot in all_lots(chart)}
            for lot, even in found.items():
                for arrow in set(range(len(chart.arrows))) - set(lot):
                    other = found[tuple(sorted((*lot, arrow)))]
                    if isinstance(even, Even):
                        self.assertTrue(all(one <= two for one, two in zip(other.leads, even.leads)))

    def test_meters(self):
        for _, chart in small_charts(60):
            for lot in all_lots(chart):
                meter = least_meter(chart, lot)
                if isinstance(meter, Meter):
                    self.assertTrue(is_metered(meter))
                    self.assertTrue(set(meter.charged_arrows) <= set(lot))
                    self.assertEqual(even_leads(meter), least_even(chart, lot).leads)

    def test_largest(self):
        chart = dense()
        for lot in ((), tuple(range(0, 32, 2)), tuple(range(32))[1:], (0, 5, 9, 20, 31), tuple(range(16, 32))):
            self.check(chart, lot, least_even(chart, lot))
            self.check(ladder(), lot, least_even(ladder(), lot))
        found = least_even(ladder(), (30, 31))
        self.assertEqual(found.leads, tuple(range(16, 0, -1)))
        dear = Chart([10 ** 9] * 16, ladder().arrows)
        self.assertEqual(least_even(dear, (30, 31)).leads, tuple(range(16 * 10 ** 9, 0, -10 ** 9)))
        self.assertEqual(least_meter(dear, (30, 31)).charges, (0,) * 30 + (16 * 10 ** 9,) * 2)

    def test_refused(self):
        for work in (least_even, least_meter):
            for index, lot in ((0, None), (0, 3), (0, (5,)), (1, (1, 1)), (1, [3, 1]), (0, (True,)), (0, "1")):
                self.refuses(BadLot, {"index": index}, work, example(), lot)

    def test_arguments_stay(self):
        lot, lows, highs = [1, 3], [0, 0, 5, 0], [9] * 4
        least_even(example(), lot)
        least_above(example(), lot, lows)
        leads_between(example(), lot, lows, highs)
        self.assertEqual((lot, lows, highs), ([1, 3], [0, 0, 5, 0], [9] * 4))


class LeastAbove(Raises, unittest.TestCase):
    def test_ordinary(self):
        for lows in ((0, 0, 5, 0), [0, 0, 5, 0]):
            found = least_above(example(), (1, 3), lows)
            self.assertEqual(found.leads, (7, 5, 5, 5))
            self.assertEqual(found.reasons[2], ("low",))
            self.assertEqual(reasons_fault(example(), (1, 3), lows, found), None)
        self.assertEqual(least_above(example(), (1, 3), (0,) * 4).leads, (6, 4, 4, 4))
        self.assertIsInstance(least_above(example(), (1,), (0, 0, 5, 0)), BadWalk)

    def test_small_charts(self):
        for source, chart in small_charts(40):
            lows = [source.randint(0, 4) for _ in chart.costs]
            for lot in all_lots(chart):
                found = least_above(chart, lot, lows)
                rows = [row for row in even_rows(chart, lot, 9) if all(map(int.__ge__, row, lows))]
                if isinstance(found, BadWalk):
                    self.assertEqual(walk_fault(chart, lot, found), None)
                    self.assertEqual(rows, [])
                else:
                    self.assertEqual(found.leads, least_row(rows))
                    self.assertEqual(reasons_fault(chart, lot, lows, found), None)

    def test_largest(self):
        lows = [10 ** 11] * 16
        found = least_above(dense(), tuple(range(32)), lows)
        self.assertEqual(reasons_fault(dense(), tuple(range(32)), lows, found), None)
        self.assertEqual(found.leads, tuple(lows))
        dear = Chart([10 ** 9] * 16, line(16).arrows)
        self.assertEqual(least_above(dear, (), [0] * 15 + [10 ** 11]).leads,
                         tuple(10 ** 11 + 10 ** 9 * more for more in range(15, -1, -1)))

    def test_refused(self):
        for work in (lambda lot, lows: least_above(example(), lot, lows),
                     lambda lot, lows: leads_between(example(), lot, lows, None),
                     lambda lot, lows: reasons_fault(example(), lot, lows, None),
                     lambda lot, lows: pinch_fault(example(), lot, lows, None, None)):
            for wrong in BAD_ROWS:
                self.refuses(BadLows, {"index": 0}, work, (1, 3), wrong)
            for wrong in WRONG_NUMBERS:
                self.refuses(BadLows, {"index": 0}, work, (1, 3), (wrong, 0, 0, 0))
                self.refuses(BadLows, {"index": 2}, work, (1, 3), [0, 0, wrong, wrong])
            self.refuses(BadLows, {"index": 1}, work, (), (0, -1, 0, 0))
            for index, lot in ((0, None), (0, (5,)), (1, (1, 1)), (1, [0, True])):
                self.refuses(BadLot, {"index": index}, work, lot, None)


class JudgingReasons(unittest.TestCase):
    RIGHT = ((2, "back"), (0, "forward"), ("cost",), (4, "forward"))

    def fault(self, leads, reasons, lows=(0, 0, 0, 0)):
        return reasons_fault(example(), [1, 3], lows, Even(leads, reasons))

    def test_right(self):
        self.assertEqual(self.fault((6, 4, 4, 4), self.RIGHT), None)
        self.assertEqual(self.fault((6, 4, 4, 4), self.RIGHT, [0, 0, 4, 0]), None)
        lows = (0, 0, 4, 0)
        self.assertEqual(self.fault((6, 4, 4, 4), (*self.RIGHT[:2], ("low",), self.RIGHT[3]), lows), None)
        self.assertEqual(reasons_fault(Chart([0], []), (), (0,), Even((0,), (("low",),))), None)

    def test_leads(self):
        for wrong in ([6, 4, 4, 4], None, 6, "6444", (), (6, 4, 4), (6, 4, 4, 4, 4), (6, 4, 4, True), (6, 4, 4, "4"),
                      (6, 4, None, 4), (6, (4,), 4, 4)):
            self.assertEqual(self.fault(wrong, self.RIGHT), "leads")
            self.assertEqual(self.fault(wrong, None), "leads")

    def test_reason(self):
        for wrong in (list(self.RIGHT), None, 5, (), self.RIGHT[:3], (*self.RIGHT, ("cost",))):
            self.assertEqual(self.fault((6, 4, 4, 4), wrong), "reason")
        for wrong in (None, "cost", ["cost"], ("Cost",), (), ("cost", "low"), [2, "back"], (2, "Back"), (5, "back"),
                      (True, "forward"), (-1, "back"), (0, "forward"), (2, "forward"), (1, "back"), (3, "back"),
                      ("2", "back"), (2, "back", 0), 2):
            self.assertEqual(self.fault((6, 4, 4, 4), (wrong, *self.RIGHT[1:])), "reason")
            self.assertEqual(self.fault((0, 0, 0, 0), (wrong, *self.RIGHT[1:])), "reason")
        # It ends at its place, but goes back along an arrow of the lot.
        self.assertEqual(self.fault((6, 4, 4, 4), (self.RIGHT[0], (1, "back"), *self.RIGHT[2:])), "reason")

    def test_demand(self):
        for wrong in ((6, 4, 3, 4), (5, 4, 4, 4), (7, 4, 4, 4), (6, 4, 4, 3), (-6, 4, 4, 4)):
            self.assertEqual(self.fault(wrong, self.RIGHT), "demand")
        self.assertEqual(self.fault((6, 4, 4, 4), self.RIGHT, (0, 0, 5, 0)), "demand")

    def test_met(self):
        self.assertEqual(self.fault((7, 5, 5, 5), self.RIGHT), "met")
        self.assertEqual(self.fault((6, 4, 4, 4), (("cost",), *self.RIGHT[1:])), "met")
        self.assertEqual(self.fault((6, 4, 4, 4), (("low",), *self.RIGHT[1:])), "met")
        self.assertEqual(self.fault((6, 4, 4, 4), ((1, "forward"), *self.RIGHT[1:])), "met")

    def test_ring(self):
        reasons = ((0, "back"), (0, "forward"), ("cost",), (4, "forward"))
        self.assertEqual(self.fault((6, 4, 4, 4), reasons), "ring")
        reasons = ((0, "back"), (0, "forward"), (2, "forward"), (4, "forward"))
        self.assertEqual(self.fault((7, 5, 5, 5), reasons), "ring")
        still = Chart([0], [(0, 0)])
        self.assertEqual(reasons_fault(still, (), (0,), Even((3,), ((0, "back"),))), "ring")

    def test_just_the_least_leads(self):
        senses = ("forward", "back")
        for source, chart in small_charts(25):
            if len(chart) > 2 or len(chart.arrows) > 3:
                continue
            lows = [source.randint(0, 3) for _ in chart.costs]
            told = [("cost",), ("low",), *product(range(len(chart.arrows)), senses)]
            for lot in all_lots(chart):
                found = least_above(chart, lot, lows)
                right = {leads for leads in product(range(7), repeat=len(chart))
                         for reasons in product(told, repeat=len(chart))
                         if reasons_fault(chart, lot, lows, Even(leads, reasons)) is None}
                self.assertEqual(right, {found.leads} if isinstance(found, Even) else set())


class Chains(Raises, unittest.TestCase):
    def test_example(self):
        even = least_even(example(), (1, 3))
        told = [(2, ((2, "back"),)), (2, ((2, "back"), (0, "forward"))), (2, ()), (2, ((2, "back"), (4, "forward")))]
        self.assertEqual([chain_of(example(), even, place) for place in range(4)], told)
        self.assertTrue(all(is_deep_tuple(chain_of(example(), even, place)) for place in range(4)))

    def test_refused(self):
        even = least_even(example(), (1, 3))
        for wrong in (-1, 4, *NO_NUMBERS):
            self.refuses(BadPlace, {"place": wrong}, chain_of, example(), even, wrong)

    def test_small_charts(self):
        for source, chart in small_charts(40):
            lows = [source.randint(0, 4) for _ in chart.costs]
            for lot in all_lots(chart):
                for even in (least_even(chart, lot), least_above(chart, lot, lows)):
                    if isinstance(even, Even):
                        self.check(chart, even, lows)

    def check(self, chart, even, lows):
        for place in range(len(chart)):
            start, steps = chain_of(chart, even, place)
            self.assertIn(even.reasons[start], (("cost",), ("low",)))
            self.assertEqual(walk_places(chart, start, steps)[-1], place)
            self.assertIn(even.leads[start], (chart.costs[start], lows[start]))
            self.assertEqual(even.leads[place], even.leads[start] + walk_sum(chart, steps))

    def test_largest(self):
        even = least_even(ladder(), (30, 31))
        start, steps = chain_of(ladder(), even, 0)
        self.assertEqual((start, len(steps)), (15, 15))
        self.assertEqual(walk_sum(ladder(), steps), 15)


class LeadsBetween(Raises, unittest.TestCase):
    def test_example(self):
        chart, lot, lows = example(), (1, 3), (0, 0, 0, 0)
        self.assertEqual(leads_between(chart, lot, lows, (9, 9, 9, 9)), Between((6, 4, 4, 4), (9, 7, 7, 7)))
        self.assertEqual(leads_between(chart, [1, 3], [0, 5, 0, 0], [9, 9, 9, 6]), Between((7, 5, 5, 5), (8, 6, 6, 6)))
        self.assertEqual(leads_between(chart, lot, lows, (6, 4, 4, 4)), Between((6, 4, 4, 4), (6, 4, 4, 4)))
        self.assertEqual(leads_between(chart, lot, lows, (5, 9, 9, 9)), Pinch(2, ((2, "back"),)))
        self.assertIsInstance(leads_between(chart, (1,), lows, (0, 0, 0, 0)), BadWalk)
        self.assertEqual(leads_between(chart, lot, (0, 0, 5, 0), (9, 9, 4, 9)), Pinch(2, ()))

    def test_small_charts(self):
        pinches = 0
        for source, chart in small_charts(40):
            lows = [source.randint(0, 3) for _ in chart.costs]
            highs = [source.randint(0, 6) for _ in chart.costs]
            for lot in all_lots(chart):
                found = leads_between(chart, lot, lows, highs)
                rows = [row for row in even_rows(chart, lot, 6)
                        if all(low <= lead <= high for low, lead, high in zip(lows, row, highs))]
                if isinstance(least_even(chart, lot), BadWalk):
                    self.assertIsInstance(found, BadWalk)
                    self.assertEqual(walk_fault(chart, lot, found), None)
                elif rows:
                    self.assertEqual(found, Between(least_row(rows), greatest_row(rows)))
                    self.assertTrue(is_deep_tuple(found.least) and is_deep_tuple(found.greatest))
                    self.check_rows(chart, lot, rows)
                else:
                    pinches += 1
                    self.assertIsInstance(found, Pinch)
                    self.assertEqual(pinch_fault(chart, lot, lows, highs, found), None)
                    self.assertTrue(is_deep_tuple(found.steps))
        self.assertGreater(pinches, 30)

    def check_rows(self, chart, lot, rows):
        for other in rows[:5]:
            self.assertEqual(first_unmet(chart, lot, least_row([rows[-1], other])), None)
            self.assertEqual(first_unmet(chart, lot, greatest_row([rows[-1], other])), None)

    def test_largest(self):
        chart, lot = ladder(), (30, 31)
        found = leads_between(chart, lot, [0] * 16, [10 ** 11] * 16)
        self.assertEqual(found.least, tuple(range(16, 0, -1)))
        self.assertEqual(found.greatest, tuple(range(10 ** 11, 10 ** 11 - 16, -1)))
        pinch = leads_between(chart, lot, [0] * 15 + [10 ** 11], [10 ** 11] * 16)
        self.assertEqual(pinch_fault(chart, lot, [0] * 15 + [10 ** 11], [10 ** 11] * 16, pinch), None)
        self.assertEqual(leads_between(dense(), tuple(range(32)), [0] * 16, dense().costs).least, dense().costs)
        self.assertIsInstance(leads_between(dense(), (), [0] * 16, [0] * 16), BadWalk)

    def test_highs_refused(self):
        for work in (lambda highs: leads_between(example(), (1, 3), (0,) * 4, highs),
                     lambda highs: leads_between(example(), (), (0,) * 4, highs),
                     lambda highs: pinch_fault(example(), (1, 3), (0,) * 4, highs, None)):
            for wrong in BAD_ROWS:
                self.refuses(BadHighs, {"index": 0}, work, wrong)
            for wrong in WRONG_NUMBERS:
                self.refuses(BadHighs, {"index": 0}, work, (wrong, 9, 9, 9))
                self.refuses(BadHighs, {"index": 3}, work, [9, 9, 9, wrong])


class JudgingPinches(unittest.TestCase):
    def fault(self, start, steps, lows=(0, 0, 0, 0), highs=(5, 9, 9, 9)):
        return pinch_fault(example(), [1, 3], lows, highs, Pinch(start, steps))

    def test_right(self):
        self.assertEqual(self.fault(2, ((2, "back"),)), None)
        self.assertEqual(self.fault(2, ((2, "back"), (0, "forward"), (0, "back"))), None)
        self.assertEqual(self.fault(2, (), highs=(9, 9, 3, 9)), None)
        self.assertEqual(self.fault(3, (), lows=(0, 0, 0, 9), highs=(9, 9, 9, 8)), None)
        self.assertEqual(self.fault(1, ((0, "back"),), lows=[0, 4, 0, 0], highs=[5, 9, 9, 9]), None)

    def test_step(self):
        for wrong in (-1, 4, *NO_NUMBERS):
            self.assertEqual(self.fault(wrong, ((2, "back"),)), "step")
        for wrong in ([(2, "back")], [], None, 2, "back", {}, (2, "back"), ([2, "back"],), ((5, "back"),),
                      ((True, "forward"),), ((2, "up"),), ((2, "back"), None)):
            self.assertEqual(self.fault(2, wrong), "step")

    def test_joined(self):
        self.assertEqual(self.fault(0, ((2, "back"),)), "joined")
        self.assertEqual(self.fault(2, ((2, "back"), (3, "back"), (0, "forward"))), "joined")
        self.assertEqual(self.fault(0, ((1, "forward"),)), "joined")

    def test_sense(self):
        self.assertEqual(self.fault(0, ((1, "back"),)), "sense")
        self.assertEqual(self.fault(2, ((2, "back"), (3, "back"))), "sense")

    def test_sum(self):
        self.assertEqual(self.fault(2, ()), "sum")
        self.assertEqual(self.fault(2, ((2, "back"),), highs=(6, 9, 9, 9)), "sum")
        self.assertEqual(self.fault(1, ((0, "back"),)), "sum")
        self.assertEqual(self.fault(1, ((0, "back"),), lows=(0, 3, 0, 0)), "sum")


class Meters(Raises, unittest.TestCase):
    def test_meters(self):
        self.assertEqual(meter_of(example(), [6, 4, 4, 4]), example_meter())
        self.assertEqual(meter_of(example(), (0, 0, 0, 0)), Meter(example(), 0, (2, 3, 2, 4, 2)))
        self.assertEqual(meter_of(Chart([5], []), (0,)), Meter(Chart([5], []), 0, ()))
        largest = meter_of(Chart([10 ** 9, 0], [(0, 1)]), (0, 5 * 10 ** 11))
        self.assertEqual(largest.charges, (501 * 10 ** 9,))

    def test_not_even(self):
        self.refuses(NotEven, {"arrow": 0}, meter_of, example(), (9, 4, 4, 4))
        self.refuses(NotEven, {"arrow": 1}, meter_of, example(), (0, 4, 5, 0))
        self.refuses(NotEven, {"arrow": 3}, meter_of, example(), (0, 0, 5, 0))
        self.refuses(NotEven, {"arrow": 4}, meter_of, example(), (6, 4, 4, 3))

    def test_refused(self):
        for wrong in BAD_ROWS:
            self.refuses(BadLeads, {"index": 0}, meter_of, example(), wrong)
        for wrong in (-1, 5 * 10 ** 11 + 1, *NO_NUMBERS):
            self.refuses(BadLeads, {"index": 0}, meter_of, example(), (wrong, 0, 0, 0))
            self.refuses(BadLeads, {"index": 3}, meter_of, example(), [99, 0, 0, wrong])

    def test_small_charts(self):
        for _, chart in small_charts(40):
            for leads in product(range(4), repeat=len(chart)):
                charges = [leads[head] - leads[tail] + chart.costs[tail] for tail, head in chart.arrows]
                below = [arrow for arrow, charge in enumerate(charges) if charge < 0]
                if below:
                    self.refuses(NotEven, {"arrow": below[0]}, meter_of, chart, leads)
                else:
                    self.assertEqual(even_leads(meter_of(chart, leads)), check_leads(chart, leads))


class Results(unittest.TestCase):
    def test_kept(self):
        self.assertEqual(vars(Between((1,), (2,))), {"least": (1,), "greatest": (2,)})
        self.assertEqual(vars(Pinch(2, ())), {"start": 2, "steps": ()})
        self.assertNotEqual(Between((1,), (2,)), Between((1,), (3,)))
        self.assertNotEqual(Between((1,), (2,)), Between((0,), (2,)))
        self.assertNotEqual(Pinch(2, ()), Pinch(1, ()))


if __name__ == "__main__":
    unittest.main()
