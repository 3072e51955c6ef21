"""[10.5]: the shortest log that tells two meters apart."""

import time
import unittest

from helping import Raises, example, example_meter, line, loop, random_meter, runs_up_to, sources
from purseahead.charts import Chart
from purseahead.errors import TooMany
from purseahead.logs import find_places
from purseahead.meters import Meter
from purseahead.telling import find_telling

# A chart of six places whose runs make every log of the charges 1, 2, 3 up to a long one: (tail, head, charge).
LONG = ((0, 0, 1), (0, 1, 0), (0, 1, 1), (0, 1, 3), (0, 2, 0), (0, 3, 0), (0, 3, 3), (0, 4, 3), (1, 0, 2), (1, 2, 3),
        (1, 3, 1), (1, 5, 2), (2, 2, 0), (2, 2, 3), (2, 4, 1), (2, 4, 3), (2, 5, 2), (3, 5, 1), (3, 5, 3), (3, 5, 3),
        (4, 1, 1), (4, 1, 2), (4, 3, 3), (4, 4, 0), (4, 4, 2), (4, 4, 3), (4, 5, 3), (5, 2, 1), (5, 2, 2), (5, 4, 3),
        (5, 5, 2))


def from_links(links, first=0):
    count = 1 + max(max(tail, head) for tail, head, _ in links)
    return Meter(Chart([0] * count, [link[:2] for link in links]), first, [link[2] for link in links])


def all_logs_meter(charges, first=0):
    """A meter that makes every log of these charges."""
    return Meter(Chart([0], [(0, 0)] * len(charges)), first, list(charges))


def after(meter, places, charge):
    """The places behind one charge and what is free, from a set of places."""
    found = {head for (tail, head), its in zip(meter.chart.arrows, meter.charges) if its == charge and tail in places}
    return spread(meter, found)


def spread(meter, places):
    found = set(places)
    for _ in range(len(meter.chart)):
        found |= {head for (tail, head), its in zip(meter.chart.arrows, meter.charges) if its == 0 and tail in found}
    return frozenset(found)


def plain_telling(one, other):
    """The shortest and least telling log, by going through all logs that both make, level by level."""
    if one.first != other.first:
        return (min(one.first, other.first),)
    charges = sorted({charge for charge in one.charges + other.charges if charge})
    start = (spread(one, {0}), spread(other, {0}))
    level, seen = [((one.first,), start)], {start}
    while level:
        further = []
        for log, (ours, theirs) in level:
            for charge in charges:
                state = (after(one, ours, charge), after(other, theirs, charge))
                if bool(state[0]) != bool(state[1]):
                    return log + (charge,)
                if state[0] and state not in seen:
                    seen.add(state)
                    further.append((log + (charge,), state))
        level = further
    return None


def logs_of(meter, length):
    return {(meter.first,) + tuple(meter.charges[arrow] for arrow in run if meter.charges[arrow])
            for run in runs_up_to(meter.chart, length)}


class Telling(Raises, unittest.TestCase):
    def test_ordinary(self):
        self.assertIsNone(find_telling(example_meter(), example_meter()))
        self.assertEqual(find_telling(example_meter(), example_meter(5)), (5,))
        self.assertEqual(find_telling(example_meter(0), example_meter(5)), (0,))
        self.assertEqual(find_telling(example_meter(), example_meter(6, (0, 5, 0, 5, 0))), (6, 6))
        self.assertEqual(find_telling(example_meter(), example_meter(6, (0, 5, 0, 6, 4))), (6, 4))
        # Which of two ways charges what cannot be told.
        self.assertIsNone(find_telling(example_meter(), example_meter(6, (0, 6, 0, 5, 0))))
        self.assertIsInstance(find_telling(example_meter(), example_meter(5)), tuple)

    def test_unlike_charts(self):
        self.assertIsNone(find_telling(Meter(loop(), 3, [2]), Meter(Chart([9, 0], [(0, 1), (1, 0)]), 3, [2, 2])))
        self.assertIsNone(find_telling(Meter(loop(), 3, [0]), Meter(Chart([4], []), 3, [])))
        self.assertEqual(find_telling(Meter(loop(), 3, [2]), Meter(line(4), 3, (2, 2, 2))), (3, 2, 2, 2, 2))
        self.assertEqual(find_telling(Meter(line(4), 3, (2, 2, 2)), Meter(loop(), 3, [2])), (3, 2, 2, 2, 2))
        # Charges that one of both never makes.
        self.assertEqual(find_telling(all_logs_meter((1, 10 ** 12)), all_logs_meter((1, 2, 10 ** 12))), (0, 2))

    def test_all_logs(self):
        """Random couples, by all runs of few arrows."""
        told = {}
        for source in sources(400):
            one = random_meter(source, most_charge=2, most_places=3, most_arrows=4).with_first(1)
            other = random_meter(source, most_charge=2, most_places=3, most_arrows=4).with_first(source.choice((1, 1, 1, 2)))
            found = find_telling(one, other)
            self.assertEqual(found, plain_telling(one, other))
            self.assertEqual(find_telling(other, one), found)
            apart = logs_of(one, 5) ^ logs_of(other, 5)
            if found is not None and len(found) <= 2:
                self.assertEqual(min(apart, key=lambda log: (len(log), log)), found)
            if found is None:
                self.assertFalse([log for log in apart if len(log) <= 2])
            told[found and len(found)] = told.get(found and len(found), 0) + 1
        self.assertTrue({None, 1, 2, 3, 4} <= set(told), told)

    def test_six_places(self):
        lengths = set()
        for source in sources(300):
            one = random_meter(source, most_charge=2, most_places=6, most_arrows=12).with_first(1)
            # A meter that is a little unlike: one charge is another one, or one arrow leads elsewhere.
            charges, arrows = list(one.charges), list(one.chart.arrows)
            if not charges:
                continue
            at = source.randrange(len(charges))
            if source.random() < 0.5:
                charges[at] = source.randint(0, 2)
            arrows.append((source.randrange(len(one.chart)), source.randrange(len(one.chart))))
            other = Meter(Chart(one.chart.costs, arrows), 1, charges + [source.randint(0, 2)])
            found = find_telling(one, other)
            self.assertEqual(found, plain_telling(one, other))
            lengths.add(found and len(found))
        self.assertTrue({None, 2, 3, 4, 5} <= lengths, lengths)

    def test_long_log(self):
        one, other = from_links(LONG), all_logs_meter((1, 2, 3))
        before = time.perf_counter()
        found = find_telling(one, other)
        self.assertLess(time.perf_counter() - before, 10)
        self.assertEqual(len(found), 27)
        self.assertEqual(found, plain_telling(one, other))
        self.assertEqual(find_telling(other, one), found)
        self.assertTrue(find_places(one, found[:24]))

    def test_largest(self):
        links = [(at % 6, (at * 5 + at // 6) % 6, at % 4) for at in range(32)]
        one = from_links(links)
        for other in (all_logs_meter(range(1, 33)), from_links(links[:-1] + [(1, 4, 2)])):
            self.assertEqual(find_telling(one, other), plain_telling(one, other))

    def test_too_many(self):
        seven, six = Meter(line(7), 1, [1] * 6), Meter(line(6), 2, [1] * 5)
        self.refuses(TooMany, {"count": 7}, find_telling, seven, six)
        self.refuses(TooMany, {"count": 7}, find_telling, six, seven)
        self.refuses(TooMany, {"count": 7}, find_telling, seven, Meter(line(16), 1, [1] * 15))
        self.refuses(TooMany, {"count": 16}, find_telling, Meter(line(16), 1, [1] * 15), seven)
        self.assertEqual(find_telling(six, six.with_first(1)), (1,))
        self.assertEqual(example().costs, (2, 3, 4, 1))


if __name__ == "__main__":
    unittest.main()
