"""[4.14] to [4.20]: place lots, place walks, gathered charts, the fewest places."""

import unittest
from itertools import product

from helping import NO_NUMBERS, NO_SEQUENCES, Raises, dense, example, is_deep_tuple, ladder, line, loop
from helping import place_subsets, random_chart, sources
from purseahead.charts import Chart
from purseahead.errors import BadPlaces, TooMany
from purseahead.evenness import BadWalk, Even
from purseahead.leastmeters import least_even, meter_of
from purseahead.placelots import FewestPlaces, Gathered, check_places, fewest_places, gathered_chart
from purseahead.placelots import least_even_places, place_walk_fault


def crowd():
    """8 places and 32 arrows, all of them into place 7."""
    return Chart([0, 1, 2, 3, 4, 5, 6, 7], [(at, at + 1) for at in range(6)] + [(at % 8, 7) for at in range(26)])


def charges_of(chart, leads):
    return [leads[head] - leads[tail] + chart.costs[tail] for tail, head in chart.arrows]


def is_even_for(chart, places, leads):
    """Whether a covered even meter with these leads charges as a place lot says."""
    if any(lead < cost for lead, cost in zip(leads, chart.costs)):
        return False
    into = [[] for _ in chart.costs]
    for charge, (_, head) in zip(charges_of(chart, leads), chart.arrows):
        into[head].append(charge)
    for place, charges in enumerate(into):
        if any(charge < 0 for charge in charges) or len(set(charges)) > 1:
            return False
        if place not in places and any(charges):
            return False
    return True


def step_told(chart, step):
    """The place that a place step leaves, the one it comes to, and what it adds."""
    tail, head = chart.arrows[step[0]]
    if len(step) == 3:
        other = chart.arrows[step[2]][0]
        return tail, other, chart.costs[other] - chart.costs[tail]
    if step[1] == "forward":
        return tail, head, -chart.costs[tail]
    return head, tail, chart.costs[tail]


class PlaceLots(Raises, unittest.TestCase):
    def test_taken(self):
        for places in ((), (0,), (3,), (0, 2, 3), (0, 1, 2, 3)):
            self.assertEqual(check_places(example(), places), places)
            self.assertEqual(check_places(example(), list(places)), places)
            self.assertIsInstance(check_places(example(), list(places)), tuple)

    def test_refused(self):
        for work in (check_places, least_even_places, lambda chart, places: place_walk_fault(chart, places, None)):
            for wrong in NO_SEQUENCES:
                self.refuses(BadPlaces, {"index": 0}, work, example(), wrong)
            for wrong in (-1, 4, *NO_NUMBERS):
                self.refuses(BadPlaces, {"index": 0}, work, example(), (wrong,))
                self.refuses(BadPlaces, {"index": 1}, work, example(), [0, wrong, wrong])
            for index, wrong in ((1, (1, 1)), (1, (3, 1)), (2, (0, 2, 1, 9)), (1, [0, True]), (4, [0, 1, 2, 3, 3])):
                self.refuses(BadPlaces, {"index": index}, work, example(), wrong)


class LeastPlaces(unittest.TestCase):
    def check(self, chart, places, found):
        """Judge a result from the points; return whether the place lot is even."""
        if isinstance(found, BadWalk):
            self.assertEqual(place_walk_fault(chart, places, found.steps), None)
            self.assertTrue(is_deep_tuple(found.steps))
            return False
        self.assertIsInstance(found, Even)
        self.assertTrue(is_deep_tuple(found.leads) and is_deep_tuple(found.reasons))
        self.assertTrue(is_even_for(chart, places, found.leads))
        for place, reason in enumerate(found.reasons):
            for _ in chart.costs:
                if reason != ("cost",):
                    self.assertIn(reason[1], ("forward", "back", "side"))
                    self.assertFalse(reason[1] == "back" and chart.arrows[reason[0]][1] in places)
                    if reason[1] == "side":
                        self.assertNotEqual(reason[0], reason[2])
                        self.assertEqual(chart.arrows[reason[0]][1], chart.arrows[reason[2]][1])
                    start, end, by = step_told(chart, reason)
                    self.assertEqual(end, place)
                    self.assertEqual(found.leads[place], found.leads[start] + by)
                    place, reason = start, found.reasons[start]
            self.assertEqual(reason, ("cost",))
            self.assertEqual(found.leads[place], chart.costs[place])
        return True

    def test_example(self):
        for places in ((0, 2), [0, 2]):
            found = least_even_places(example(), places)
            self.assertTrue(self.check(example(), (0, 2), found))
            self.assertEqual(found.leads, (5, 3, 4, 3))
        self.assertFalse(self.check(example(), (0, 1), least_even_places(example(), (0, 1))))
        self.assertEqual(least_even_places(example(), (0, 1, 2, 3)).leads, (2, 3, 4, 1))
        self.assertFalse(self.check(example(), (), least_even_places(example(), ())))
        steps = ((0, "forward"), (1, "side", 3), (2, "back"))
        self.assertEqual(place_walk_fault(example(), (0, 1), steps), None)

    def test_place_zero(self):
        # The first charge is free, whether 0 is in the lot or not.
        self.assertEqual(least_even_places(line(3), ()).leads, (3, 2, 1))
        self.assertEqual(least_even_places(line(3), (0,)).leads, (3, 2, 1))
        self.assertEqual(least_even_places(line(3), (1,)).leads, (1, 2, 1))
        self.assertTrue(self.check(loop(), (0,), least_even_places(loop(), (0,))))
        self.assertFalse(self.check(loop(), (), least_even_places(loop(), ())))

    def test_small_charts(self):
        walks = 0
        for source in sources(50):
            chart = random_chart(source, most_places=3, most_arrows=6, most_cost=2)
            for places in place_subsets(len(chart)):
                found = least_even_places(chart, places)
                rows = [row for row in product(range(8), repeat=len(chart)) if is_even_for(chart, places, row)]
                if self.check(chart, places, found):
                    self.assertEqual(found.leads, tuple(min(row) for row in zip(*rows)))
                    meter = meter_of(chart, found.leads)
                    self.assertTrue(all(chart.arrows[arrow][1] in places for arrow in meter.charged_arrows))
                else:
                    walks += 1
                    self.assertEqual(rows, [])
        self.assertGreater(walks, 50)

    def test_more_places_never_spoil(self):
        for source in sources(40):
            chart = random_chart(source)
            found = {places: least_even_places(chart, places) for places in place_subsets(len(chart))}
            for places, even in found.items():
                for place in range(len(chart)):
                    if isinstance(even, Even) and place not in places:
                        self.assertIsInstance(found[tuple(sorted((*places, place)))], Even)
            self.assertEqual(found[tuple(range(len(chart)))].leads, chart.costs)

    def test_largest(self):
        # 26 arrows into one place: all couples of them would be 650 sideways demands.
        for places in ((), (7,), (1, 2, 3, 4, 5, 6, 7), tuple(range(8))):
            self.check(crowd(), places, least_even_places(crowd(), places))
        one = Chart([5], [(0, 0)] * 32)
        self.assertEqual(least_even_places(one, (0,)).leads, (5,))
        self.assertFalse(self.check(one, (), least_even_places(one, ())))
        wide = Chart([1] * 15 + [0], [(0, at) for at in range(1, 15)] + [(at, 15) for at in range(15)])
        for places in ((), (15,), tuple(range(16)), tuple(range(1, 16)), tuple(range(1, 15))):
            self.check(wide, places, least_even_places(wide, places))
        for chart in (dense(), ladder()):
            for places in ((), tuple(range(16)), tuple(range(0, 16, 2)), (0, 7), (3,)):
                self.check(chart, places, least_even_places(chart, places))
        dear = Chart([10 ** 9] * 16, ladder().arrows)
        self.assertEqual(least_even_places(dear, (0,)).leads, tuple(range(16 * 10 ** 9, 0, -10 ** 9)))


class JudgingWalks(unittest.TestCase):
    RIGHT = ((0, "forward"), (1, "side", 3), (2, "back"))

    def fault(self, steps, places=(0, 1)):
        return place_walk_fault(example(), places, steps)

    def test_right(self):
        for steps in (self.RIGHT, list(self.RIGHT), self.RIGHT * 2, self.RIGHT[1:] + self.RIGHT[:1]):
            self.assertEqual(self.fault(steps), None)
            self.assertEqual(self.fault(steps, [0, 1]), None)
        self.assertEqual(self.fault(((2, "back"), (3, "back")), ()), None)
        self.assertEqual(place_walk_fault(loop(), (), [(0, "back")]), None)

    def test_step(self):
        for wrong in (None, 3, "back", {}, {(0, "back"): 1}, True):
            self.assertEqual(self.fault(wrong), "step")
        for wrong in (None, 3, "back", (), (2,), [2, "back"], [1, "side", 3], (5, "back"), (-1, "back"), (2, "Back"),
                      (True, "forward"), (2, "back", 0), (2, "side"), (1, "side", 1), (1, "side", 5), (5, "side", 1),
                      (1, "side", -1), (True, "side", 3), (3, "side", True), (1, "side", None), (1, "side", "3"),
                      (1, "side", 3, 3), (1, "sides", 3), (1, 3, "side"), (None, "side", 3), ("side", 1, 3)):
            self.assertEqual(self.fault((wrong,)), "step")
            self.assertEqual(self.fault([*self.RIGHT, wrong]), "step")

    def test_closed(self):
        for wrong in ((), [], self.RIGHT[:2], self.RIGHT[1:], ((2, "back"),), self.RIGHT[::-1], ((1, "side", 3),),
                      ((0, "forward"), (2, "back")), ((0, "side", 1),), ((0, "forward"), (0, "forward"))):
            self.assertEqual(self.fault(wrong), "closed")

    def test_sense(self):
        # Arrow 2 leads into place 2; arrows 1 and 0 lead to unlike heads.
        self.assertEqual(self.fault(self.RIGHT, (2,)), "sense")
        self.assertEqual(self.fault(self.RIGHT, (0, 1, 2)), "sense")
        self.assertEqual(self.fault(((0, "side", 2),), ()), "sense")
        self.assertEqual(self.fault(((1, "side", 2), (1, "back"), (0, "back")), ()), "closed")
        self.assertEqual(self.fault(((0, "side", 1), (1, "forward")), ()), "sense")
        self.assertEqual(self.fault(((0, "forward"), (0, "back")), (1,)), "sense")

    def test_sum(self):
        self.assertEqual(self.fault(((1, "side", 3), (3, "side", 1))), "sum")
        self.assertEqual(self.fault(((0, "forward"), (1, "forward"))), "sum")
        self.assertEqual(self.fault(((2, "forward"), (3, "side", 1), (0, "back")), (2,)), "sum")
        self.assertEqual(self.fault(((2, "forward"), (3, "side", 1), (0, "back")), (1,)), "sense")
        both = Chart([3, 0], [(0, 1), (0, 1)])
        self.assertEqual(place_walk_fault(both, (), [(0, "side", 1)]), "sum")

    def test_all_short_walks(self):
        # A place lot is even exactly if no short closed walk is found right.
        for source in sources(25):
            chart = random_chart(source, most_places=3, most_arrows=3, most_cost=2)
            arrows = range(len(chart.arrows))
            steps = [(arrow, sense) for arrow in arrows for sense in ("forward", "back")]
            steps += [(one, "side", other) for one in arrows for other in arrows if one != other]
            for places in place_subsets(len(chart)):
                right = any(place_walk_fault(chart, places, walk) is None
                            for length in (1, 2, 3) for walk in product(steps, repeat=length))
                self.assertEqual(right, isinstance(least_even_places(chart, places), BadWalk))


class GatheredCharts(Raises, unittest.TestCase):
    def test_example(self):
        found = gathered_chart(example())
        chart = Chart((2, 3, 4, 1, 0, 0, 0, 0), ((0, 5), (1, 4), (0, 6), (2, 4), (0, 7), (4, 0), (5, 1), (6, 2), (7, 3)))
        self.assertEqual(found, Gathered(chart, (5, 6, 7, 8)))
        self.assertTrue(is_deep_tuple(found.entries))

    def test_no_entry(self):
        self.assertEqual(gathered_chart(line(2)), Gathered(Chart((1, 1, 0), ((0, 2), (2, 1))), (None, 1)))
        self.assertEqual(gathered_chart(Chart([4], [])), Gathered(Chart([4], []), (None,)))
        self.assertEqual(gathered_chart(loop()), Gathered(Chart((1, 0), ((0, 1), (1, 0))), (1,)))

    def test_edges(self):
        # A row of places has an entry for each but the first: 8 places give 15, 9 give 17.
        self.assertEqual(len(gathered_chart(line(8)).chart), 15)
        self.refuses(TooMany, {"count": 17}, gathered_chart, line(9))
        ring = Chart([1] * 8, [(at, (at + 1) % 8) for at in range(8)])
        self.assertEqual(len(gathered_chart(ring).chart), 16)
        self.refuses(TooMany, {"count": 32}, gathered_chart, dense())
        full = Chart([1, 1], [(0, 1)] * 31)
        self.assertEqual(len(gathered_chart(full).chart.arrows), 32)
        self.refuses(TooMany, {"count": 33}, gathered_chart, Chart([1, 1], [(0, 1)] * 32))
        self.refuses(TooMany, {"count": 33}, gathered_chart, crowd_of_places())
        # Too many places are told ahead of too many arrows.
        self.refuses(TooMany, {"count": 18}, gathered_chart, Chart([1] * 9, [(at % 9, (at + 1) % 9) for at in range(32)]))

    def test_same_leads(self):
        for source in sources(40):
            chart = random_chart(source, most_places=4, most_arrows=6)
            gathered = gathered_chart(chart)
            for places in place_subsets(len(chart)):
                lot = sorted(gathered.entries[place] for place in places if gathered.entries[place] is not None)
                found = least_even_places(chart, places)
                other = least_even(gathered.chart, lot)
                self.assertEqual(isinstance(found, Even), isinstance(other, Even))
                if isinstance(found, Even):
                    self.assertEqual(found.leads, other.leads[:len(chart)])


def crowd_of_places():
    """8 places, of which 7 have an entry, and 26 arrows: one arrow too many."""
    return Chart([1] * 8, [(at, at + 1) for at in range(7)] + [(0, 1 + at % 7) for at in range(19)])


class FewestOfPlaces(Raises, unittest.TestCase):
    def test_example(self):
        self.assertEqual(fewest_places(example()), FewestPlaces(2, (0, 2)))

    def test_ordinary(self):
        self.assertEqual(fewest_places(line(8)), FewestPlaces(0, ()))
        self.assertEqual(fewest_places(loop()), FewestPlaces(1, (0,)))
        self.assertEqual(fewest_places(Chart([3, 0], [(0, 1), (1, 1)])), FewestPlaces(0, ()))

    def test_all_place_lots(self):
        for source in sources(60):
            chart = random_chart(source, most_places=4, most_arrows=7)
            lots = [places for places in place_subsets(len(chart))
                    if isinstance(least_even_places(chart, places), Even)]
            self.assertEqual(fewest_places(chart), FewestPlaces(len(lots[0]), lots[0]))

    def test_eight_and_nine(self):
        found = fewest_places(crowd())
        self.assertEqual(found.number, len(found.places))
        self.assertIsInstance(least_even_places(crowd(), found.places), Even)
        for at in range(found.number):
            less = found.places[:at] + found.places[at + 1:]
            self.assertIsInstance(least_even_places(crowd(), less), BadWalk)
        self.refuses(TooMany, {"count": 9}, fewest_places, line(9))
        self.refuses(TooMany, {"count": 16}, fewest_places, dense())


if __name__ == "__main__":
    unittest.main()
