"""[8.1] to [8.4] and [8.10]: charges moved over places, drops, and moves from one meter to another one."""

import unittest
from itertools import permutations, product

from helping import BAD_PLACE_LOTS, NO_NUMBERS, Raises, dense, end_of, example, example_meter, is_deep_tuple, line
from helping import moved_pair, place_subsets, plain_lead, random_meter, ring_gain, runs_up_to, simple_rings, some_pairs
from helping import sources
from purseahead.charts import Chart
from purseahead.covering import even_leads
from purseahead.errors import BadMove, BadPlaces, CantMove, Parted, Unlike
from purseahead.leastmeters import meter_of
from purseahead.meters import Meter
from purseahead.moving import Apart, Stuck, find_drops, find_moves, find_single_moves, moved
from purseahead.parts import check_ring
from purseahead.runs import check_run

MOST = 10 ** 12


def branch():
    """The chart of the document's example in part 8."""
    return Chart((1, 5, 0), ((0, 1), (1, 2), (0, 2)))


def two_ways(one, other):
    """A chart whose two runs to its last place charge apart from one another."""
    return Meter(branch(), 0, (one, 0, other))


class Moved(Raises, unittest.TestCase):
    def test_ordinary(self):
        meter = example_meter()
        self.assertEqual(moved(meter, (1,), -2), example_meter(6, (2, 3, 0, 6, 0)))
        self.assertEqual(moved(meter, [0], 5), example_meter(1, (5, 0, 5, 1, 5)))
        self.assertEqual(moved(meter, (), MOST), meter)
        self.assertEqual(moved(meter, (0, 1, 2, 3), 6), example_meter(0))
        self.assertEqual(moved(meter, (0, 2), 0), meter)
        # An arrow from a place to itself charges as before.
        self.assertEqual(moved(Meter(Chart([1], [(0, 0)]), 3, [2]), (0,), 3), Meter(Chart([1], [(0, 0)]), 0, [2]))

    def test_leads_on_all_runs(self):
        made = refused = 0
        for source in sources(60):
            meter = random_meter(source, most_places=4, most_arrows=5)
            for places in place_subsets(len(meter.chart)):
                by = source.choice((-3, -2, -1, 0, 1, 2, 3))
                first, charges = self.told(meter, places, by)
                below = [-1] * (first < 0) + [arrow for arrow, charge in enumerate(charges) if charge < 0]
                if below:
                    refused += 1
                    self.refuses(CantMove, {"arrow": below[0]}, moved, meter, places, by)
                    continue
                made += 1
                found = moved(meter, list(places), by)
                self.assertEqual(found, Meter(meter.chart, first, charges))
                for run in runs_up_to(meter.chart, 3):
                    less = by if end_of(meter.chart, run) in places else 0
                    self.assertEqual(found.lead_ahead(run), plain_lead(meter, run) - less)
                    self.assertEqual(found.lead_behind(run), meter.lead_behind(run) - less)
                for ring in simple_rings(meter.chart):
                    self.assertEqual(ring_gain(found, ring), ring_gain(meter, ring))
        self.assertTrue(made > 200 and refused > 60, (made, refused))

    def told(self, meter, places, by):
        charges = []
        for charge, (tail, head) in zip(meter.charges, meter.chart.arrows):
            if head in places and tail not in places:
                charge -= by
            if tail in places and head not in places:
                charge += by
            charges.append(charge)
        return meter.first - (by if 0 in places else 0), charges

    def test_edges(self):
        meter = Meter(line(2), MOST, [0])
        self.assertEqual(moved(meter, (0,), MOST), Meter(line(2), 0, [MOST]))
        self.assertEqual(moved(Meter(line(2), 0, [MOST]), [0], -MOST), meter)
        self.assertEqual(moved(meter, (1,), -MOST), Meter(line(2), MOST, [MOST]))
        self.refuses(CantMove, {"arrow": -1}, moved, meter, (0,), -1)
        self.refuses(CantMove, {"arrow": -1}, moved, meter.with_first(5), (0, 1), 6)
        self.refuses(CantMove, {"arrow": 0}, moved, meter, (1,), 1)
        self.refuses(CantMove, {"arrow": 0}, moved, Meter(line(2), 5, [MOST]), (0,), 1)
        self.refuses(CantMove, {"arrow": 0}, moved, Meter(line(2), 5, [MOST]), (1,), -1)
        self.assertEqual(moved(Meter(line(2), 5, [MOST - 1]), (0,), 1), Meter(line(2), 4, [MOST]))
        # The first charge is told ahead of arrows, and these by their numbers.
        self.refuses(CantMove, {"arrow": -1}, moved, Meter(line(2), 0, [MOST]), (0,), 1)
        self.refuses(CantMove, {"arrow": 0}, moved, example_meter(9, (0, 5, 0, 6, 0)), (1, 2), 1)
        self.refuses(CantMove, {"arrow": 2}, moved, example_meter(9, (1, 5, 0, 6, 0)), (1, 2), 1)

    def test_refused(self):
        for index, wrong in BAD_PLACE_LOTS:
            self.refuses(BadPlaces, {"index": index}, moved, example_meter(), wrong, None)
        for wrong in (MOST + 1, -MOST - 1, *NO_NUMBERS):
            self.refuses(BadMove, {}, moved, example_meter(), (0,), wrong)
            self.refuses(BadMove, {}, moved, example_meter(), (), wrong)
        self.refuses(CantMove, {"arrow": -1}, moved, example_meter(), (0,), MOST)
        self.refuses(CantMove, {"arrow": 0}, moved, example_meter(), (1,), MOST)
        self.refuses(CantMove, {"arrow": 1}, moved, example_meter(), (1,), -MOST)

    def test_arguments_stay(self):
        places, meter = [0, 1], example_meter()
        moved(meter, places, 1)
        self.assertEqual((places, meter), ([0, 1], example_meter()))


class Drops(Raises, unittest.TestCase):
    def test_example(self):
        one, other = meter_of(branch(), (6, 5, 5)), meter_of(branch(), (8, 7, 8))
        self.assertEqual((one.charges, other.charges), ((0, 5, 0), (0, 6, 1)))
        self.assertEqual(find_drops(one, other), (-2, -2, -3))
        self.assertEqual(find_drops(other, one), (2, 2, 3))
        self.assertEqual(find_moves(one, other), (((0, 1, 2), -2), ((2,), -1)))
        self.assertEqual(find_drops(one, one), (0, 0, 0))

    def test_apart(self):
        found = find_drops(two_ways(1, 0), two_ways(0, 0))
        self.assertEqual(found.place, 2)
        self.assertEqual({found.one, found.other}, {(2,), (0, 1)})
        for one, other in ((Meter(Chart([1], [(0, 0)]), 0, [1]), Meter(Chart([1], [(0, 0)]), 0, [2])),):
            self.assertEqual(find_drops(one, other), Apart(0, (), (0,)))

    def test_all_runs(self):
        apart = 0
        for source in sources(150):
            one = random_meter(source, most_charge=2, most_places=4, most_arrows=5)
            other = Meter(one.chart, source.randint(0, 2), [source.randint(0, 2) for _ in one.charges])
            for pair in ((one, other), (one, one), moved_pair(source)[:2]):
                apart += self.check(*pair)
        self.assertTrue(60 < apart < 150, apart)

    def check(self, one, other):
        chart, found = one.chart, find_drops(one, other)
        unlike = [set() for _ in chart.costs]
        for run in runs_up_to(chart, 4):
            unlike[end_of(chart, run)].add(plain_lead(one, run) - plain_lead(other, run))
        if isinstance(found, tuple):
            self.assertTrue(all(numbers <= {drop} for numbers, drop in zip(unlike, found)))
            self.assertTrue(all(type(drop) is int for drop in found) and len(found) == len(chart))
            return 0
        told = [(check_run(chart, run), plain_lead(one, run) - plain_lead(other, run)) for run in (found.one, found.other)]
        self.assertEqual([end_of(chart, run) for run, _ in told], [found.place] * 2)
        self.assertNotEqual(told[0][1], told[1][1])
        self.assertTrue(is_deep_tuple(found.one) and is_deep_tuple(found.other))
        for work in (find_moves, find_single_moves):
            self.refuses(Parted, {"place": found.place}, work, one, other)
        return 1

    def test_told_drops(self):
        for one, other, drops in some_pairs(60):
            self.assertEqual(find_drops(one, other), drops)
            self.assertEqual(find_drops(other, one), tuple(-drop for drop in drops))

    def test_even_meters_have_drops(self):
        for leads, more in product(((6, 4, 4, 4), (6, 5, 4, 4), (7, 5, 6, 5)), repeat=2):
            one, other = meter_of(example(), leads), meter_of(example(), more)
            self.assertEqual(find_drops(one, other), tuple(a - b for a, b in zip(even_leads(one), even_leads(other))))

    def test_unlike(self):
        others = [Meter(Chart((2, 3, 4, 2), example().arrows), 6, (0, 5, 0, 6, 0)),
                  Meter(Chart(example().costs, [(0, 1), (1, 0), (0, 2), (0, 2), (0, 3)]), 6, (0, 5, 0, 6, 0)),
                  Meter(line(1), 6, [])]
        for work in (find_drops, find_moves, find_single_moves):
            for other in others:
                self.refuses(Unlike, {"what": "charts"}, work, example_meter(), other)
                self.refuses(Unlike, {"what": "charts"}, work, other, example_meter())


class Moves(unittest.TestCase):
    def told(self, drops):
        """The moves as the document tells them, unlike drop by unlike drop."""
        ups, downs = sorted({drop for drop in drops if drop > 0}), sorted({drop for drop in drops if drop < 0}, reverse=True)
        moves = [(tuple(at for at, drop in enumerate(drops) if drop >= up), up - before)
                 for before, up in zip([0] + ups, ups)]
        return moves + [(tuple(at for at, drop in enumerate(drops) if drop <= down), down - before)
                        for before, down in zip([0] + downs, downs)]

    def test_each_can_be_made(self):
        numbers = set()
        for one, other, drops in some_pairs(150):
            moves = find_moves(one, other)
            self.assertEqual(list(moves), self.told(drops))
            self.assertEqual(len(moves), len(set(drops) - {0}))
            self.assertTrue(is_deep_tuple(moves))
            numbers.add(len(moves))
            meters = [one]
            for places, by in moves:
                meters.append(moved(meters[-1], places, by))
            self.assertEqual(meters[-1], other)
            for row in zip(*[(meter.first, *meter.charges) for meter in meters]):
                self.assertIn(list(row), (sorted(row), sorted(row, reverse=True)))
        self.assertGreaterEqual(numbers, {0, 1, 2, 3, 4})

    def test_edges(self):
        self.assertEqual(find_moves(example_meter(), example_meter()), ())
        one, other = Meter(line(2), MOST, [0]), Meter(line(2), 0, [MOST])
        self.assertEqual(find_moves(one, other), (((0,), MOST),))
        self.assertEqual(find_moves(other, one), (((0,), -MOST),))

    def test_largest(self):
        plain = Meter.plain(dense())
        more = meter_of(dense(), [cost + 20 - at % 3 for at, cost in enumerate(dense().costs)])
        for one, other in ((plain, more), (more, plain)):
            meter = one
            for places, by in find_moves(one, other):
                meter = moved(meter, places, by)
            self.assertEqual(meter, other)


class SingleMoves(unittest.TestCase):
    def charges_behind(self, meter, order):
        """The charges, the first one in front, behind each of the moves."""
        charges, rows = [meter.first, *meter.charges], []
        for place, by in order:
            if place == 0:
                charges[0] -= by
            for arrow, (tail, head) in enumerate(meter.chart.arrows):
                charges[arrow + 1] += by * ((tail == place) - (head == place))
            rows.append(list(charges))
        return rows

    def can_be_made(self, meter, order):
        return all(min(row) >= 0 for row in self.charges_behind(meter, order))

    def test_all_orders(self):
        stuck = told = 0
        for one, other, drops in some_pairs(800, most_charge=3, most_places=4):
            found = find_single_moves(one, other)
            couples = [(place, drop) for place, drop in enumerate(drops) if drop != 0]
            fitting = [order for order in permutations(couples) if self.can_be_made(one, order)]
            if fitting:
                told += len(couples) > 1 and found != tuple(couples)
                # Always the least place that may come next: so of all orders that can be made the least one.
                self.assertEqual(found, min(fitting))
                self.assertTrue(is_deep_tuple(found))
                rows = self.charges_behind(one, found)
                self.assertEqual(rows[-1:] or [[one.first, *one.charges]], [[other.first, *other.charges]])
            else:
                stuck += 1
                self.check_stuck(one, drops, found)
        self.assertTrue(stuck > 10 and told > 20, (stuck, told))

    def check_stuck(self, meter, drops, found):
        self.assertIsInstance(found, Stuck)
        ring = check_ring(meter.chart, found.ring)
        self.assertIsInstance(found.ring, tuple)
        ends = [meter.chart.arrows[arrow] for arrow in ring]
        self.assertGreater(len(ring), 1)
        self.assertEqual(len({tail for tail, _ in ends}), len(ring))
        up = all(drops[tail] > 0 and drops[head] > meter.charges[arrow] for arrow, (tail, head) in zip(ring, ends))
        down = all(drops[head] < 0 and drops[tail] < 0 and meter.charges[arrow] + drops[tail] < 0
                   for arrow, (tail, head) in zip(ring, ends))
        self.assertTrue(up or down)

    def test_example(self):
        one, other = meter_of(branch(), (6, 5, 5)), meter_of(branch(), (8, 7, 8))
        # Arrow 1 charges 5, but arrows 0 and 2 charge nothing: place 0 waits for both of their heads.
        self.assertEqual(find_single_moves(one, other), ((1, -2), (2, -3), (0, -2)))
        self.assertEqual(find_single_moves(other, one), ((0, 2), (1, 2), (2, 3)))
        self.assertEqual(find_single_moves(one, one), ())

    def test_stuck_rings(self):
        chart = Chart([1, 1], [(0, 1), (1, 0)])
        one, other = Meter(chart, 5, [1, 1]), Meter(chart, 3, [1, 1])
        self.assertIn(find_single_moves(one, other), (Stuck((0, 1)), Stuck((1, 0))))
        self.assertIn(find_single_moves(other, one), (Stuck((0, 1)), Stuck((1, 0))))
        ring = Chart([0, 1, 1, 1], [(0, 1), (1, 2), (2, 3), (3, 1)])
        one = Meter(ring, 9, [9, 0, 0, 0])
        for by in (4, -4):
            found = find_single_moves(one, moved(one, (1, 2, 3), by))
            self.assertEqual(sorted(found.ring), [1, 2, 3])
            self.check_stuck(one, (0, by, by, by), found)
        # The drop of the one may just be the charge of the arrow.
        wide = Meter(chart, 5, [2, 2])
        self.assertEqual(find_single_moves(wide, wide.with_first(3)), ((0, 2), (1, 2)))
        self.assertEqual(find_single_moves(wide.with_first(3), wide), ((0, -2), (1, -2)))

    def test_an_arrow_to_itself_needs_no_order(self):
        meter = Meter(Chart([1], [(0, 0)]), 5, [0])
        self.assertEqual(find_single_moves(meter, meter.with_first(2)), ((0, 3),))
        self.assertEqual(find_single_moves(meter, meter.with_first(9)), ((0, -4),))

    def test_beyond_the_range(self):
        # The whole drop of a place is more than one move may have.
        chart = line(3)
        one, other = Meter(chart, MOST, [MOST, 0]), Meter(chart, 0, [0, MOST])
        self.assertEqual(find_drops(one, other), (MOST, 2 * MOST, MOST))
        self.assertEqual(find_single_moves(one, other), ((0, MOST), (1, 2 * MOST), (2, MOST)))
        self.assertEqual(len(find_moves(one, other)), 2)

    def test_largest(self):
        # Each place of the long line waits for the one ahead of it, or the one behind it.
        chart = line(16)
        one, other = Meter(chart, 9, [0] * 15), Meter(chart, 4, [0] * 15)
        self.assertEqual(find_single_moves(one, other), tuple((place, 5) for place in range(16)))
        self.assertEqual(find_single_moves(other, one), tuple((place, -5) for place in reversed(range(16))))


if __name__ == "__main__":
    unittest.main()
