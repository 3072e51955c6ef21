"""[2.5] and [2.6]: drifts and levels."""

import unittest

from helping import Raises, dense, even_meter, example_meter, is_deep_tuple, ladder, line, loop, random_meter
from helping import ring_gain, simple_rings, sources
from purseahead.charts import Chart
from purseahead.drifts import Drift, find_drift, find_fall, find_rise, levels_fault, part_levels
from purseahead.errors import Drifting
from purseahead.meters import Meter
from purseahead.parts import parts_of


def first_drift(meter, drifts):
    """The first drift by going through all simple rings."""
    found = [(len(ring), ring) for ring in simple_rings(meter.chart) if drifts(ring_gain(meter, ring))]
    if not found:
        return None
    return Drift(min(found)[1], ring_gain(meter, min(found)[1]))


def charged_chart(chart, charge, **others):
    """A meter with one charge on all arrows but those that are told by number."""
    charges = [charge] * len(chart.arrows)
    for name, other in others.items():
        charges[int(name[1:])] = other
    return Meter(chart, 0, charges)


def flat_dense():
    """16 places, 32 arrows, many rings, none of which drifts: each arrow charges the cost of its tail."""
    chart = dense()
    return Meter(chart, 5, [chart.costs[tail] for tail, _ in chart.arrows])


class Drifts(unittest.TestCase):
    def test_example(self):
        self.assertEqual(find_drift(example_meter()), None)
        rising = example_meter().with_charge(3, 7)
        self.assertEqual(find_rise(rising), Drift((2, 3), 1))
        self.assertEqual(find_drift(rising), Drift((2, 3), 1))
        self.assertEqual(find_fall(rising), None)
        falling = example_meter().with_charge(1, 3)
        self.assertEqual(find_fall(falling), Drift((0, 1), -2))
        self.assertEqual(find_drift(falling), Drift((0, 1), -2))
        self.assertEqual(find_rise(falling), None)

    def test_both(self):
        both = example_meter(charges=(0, 6, 0, 0, 0))
        self.assertEqual(find_drift(both), Drift((0, 1), 1))
        self.assertEqual(find_rise(both), Drift((0, 1), 1))
        self.assertEqual(find_fall(both), Drift((2, 3), -6))
        other = example_meter(charges=(0, 0, 0, 7, 0))
        self.assertEqual(find_drift(other), Drift((0, 1), -5))
        self.assertEqual(find_rise(other), Drift((2, 3), 1))

    def test_fewest_arrows_first(self):
        chart = Chart([1, 1, 1], [(0, 1), (1, 2), (2, 0), (2, 2)])
        self.assertEqual(find_fall(Meter(chart, 0, (0, 0, 0, 0))), Drift((3,), -1))
        self.assertEqual(find_drift(Meter(chart, 0, (9, 0, 0, 0))), Drift((3,), -1))
        self.assertEqual(find_drift(Meter(chart, 0, (9, 0, 0, 1))), Drift((0, 1, 2), 6))

    def test_least_tuple_first(self):
        # The ring from the greater place has the lesser tuple.
        chart = Chart([0, 0, 0], [(1, 2), (2, 1), (0, 1), (1, 0)])
        self.assertEqual(find_rise(Meter(chart, 0, (1, 0, 1, 0))), Drift((0, 1), 1))
        self.assertEqual(find_rise(Meter(chart, 0, (0, 0, 1, 0))), Drift((2, 3), 1))
        # Written from its least place, a ring does not begin with its least arrow.
        chart = Chart([0, 0], [(1, 0), (0, 1), (0, 1)])
        self.assertEqual(find_rise(Meter(chart, 0, (1, 0, 0))), Drift((1, 0), 1))
        self.assertEqual(find_rise(Meter(chart, 0, (0, 0, 1))), Drift((2, 0), 1))

    def test_itself(self):
        self.assertEqual(find_drift(Meter(loop(), 0, [1])), None)
        self.assertEqual(find_drift(Meter(loop(), 0, [0])), Drift((0,), -1))
        self.assertEqual(find_drift(Meter(loop(), 0, [10 ** 12])), Drift((0,), 10 ** 12 - 1))

    def test_no_ring(self):
        meter = Meter(line(16), 0, [5] * 15)
        self.assertEqual([find_drift(meter), find_fall(meter), find_rise(meter)], [None] * 3)
        self.assertEqual(find_drift(Meter(Chart([1], []), 0, ())), None)

    def test_small_charts(self):
        for source in sources(300):
            meter = random_meter(source, most_places=6, most_arrows=10)
            self.assertEqual(find_fall(meter), first_drift(meter, lambda gain: gain < 0))
            self.assertEqual(find_rise(meter), first_drift(meter, lambda gain: gain > 0))
            self.assertEqual(find_drift(meter), first_drift(meter, lambda gain: gain != 0))

    def test_nearly_even(self):
        for source in sources(200):
            meter = even_meter(source, most_places=6, most_arrows=9)
            self.assertEqual(find_drift(meter), None)
            if meter.charges:
                arrow = source.randrange(len(meter.charges))
                other = meter.with_charge(arrow, meter.charges[arrow] + 1)
                self.assertEqual(find_fall(other), None)
                self.assertEqual(find_drift(other), first_drift(other, lambda gain: gain > 0))

    def test_largest(self):
        self.assertEqual(find_drift(flat_dense()), None)
        self.assertEqual(find_drift(charged_chart(ladder(), 1)), None)
        whole = tuple(range(0, 32, 2))
        self.assertEqual(find_fall(charged_chart(ladder(), 1, _30=0)), Drift(whole, -1))
        self.assertEqual(find_rise(charged_chart(ladder(), 1, _31=2)), Drift(whole[:-1] + (31,), 1))
        self.assertEqual(find_drift(charged_chart(ladder(), 1, _31=10 ** 12)), Drift(whole[:-1] + (31,), 10 ** 12 - 1))
        meter = flat_dense().with_charge(3, 2)
        found = find_drift(meter)
        self.assertEqual((find_rise(meter), find_fall(meter)), (found, None))
        self.assertEqual((found.by, len(found.ring)), (1, 6))
        self.assertEqual(ring_gain(meter, found.ring), 1)


class Levels(Raises, unittest.TestCase):
    def test_example(self):
        self.assertEqual(part_levels(example_meter()), (0, -2, -2, 0))
        self.assertEqual(levels_fault(example_meter(), (0, -2, -2, 0)), None)

    def test_drifting(self):
        self.refuses(Drifting, {"ring": (2, 3), "by": 1}, part_levels, example_meter().with_charge(3, 7))
        self.refuses(Drifting, {"ring": (0, 1), "by": -5}, part_levels, example_meter(charges=(0, 0, 0, 0, 0)))

    def test_parts(self):
        chart = Chart([1, 2, 3, 4, 5], [(0, 2), (2, 4), (4, 2), (2, 1), (1, 3), (3, 3)])
        meter = Meter(chart, 7, (9, 8, 0, 9, 9, 4))
        self.assertEqual(part_levels(meter), (0, 0, 0, 0, 5))

    def test_edges(self):
        self.assertEqual(part_levels(Meter(Chart([1], []), 3, ())), (0,))
        self.assertEqual(part_levels(Meter(loop(), 3, [1])), (0,))
        self.assertEqual(part_levels(Meter(line(16), 3, [7] * 15)), (0,) * 16)

    def test_largest(self):
        chart = Chart([10 ** 9] * 16, [(at, (at + 1) % 16) for at in range(16)])
        meter = Meter(chart, 0, [16 * 10 ** 9] + [0] * 15)
        self.assertEqual(part_levels(meter), (0, *[(16 - at) * 10 ** 9 for at in range(1, 16)]))
        self.assertEqual(part_levels(flat_dense()), (0,) * 16)
        back = Chart([0] * 16, [(at, at - 1) for at in range(15, 0, -1)] + [(0, 15)])
        self.assertEqual(part_levels(Meter(back, 0, [0] * 16)), (0,) * 16)

    def test_small_charts(self):
        for source in sources(150):
            for meter in (random_meter(source), even_meter(source)):
                drift = find_drift(meter)
                if drift is not None:
                    self.refuses(Drifting, {"ring": drift.ring, "by": drift.by}, part_levels, meter)
                    self.assertEqual(levels_fault(meter, [0] * len(meter.chart)), "arrow")
                    continue
                levels = part_levels(meter)
                self.assertTrue(is_deep_tuple(levels))
                self.assertEqual(levels_fault(meter, levels), None)
                inside = [place for part in parts_of(meter.chart) for place in part]
                for place in range(len(levels)):
                    least = any(part[0] == place for part in parts_of(meter.chart))
                    if least or place not in inside:
                        self.assertEqual(levels[place], 0)

    def test_free_levels(self):
        meter = example_meter()
        for levels in ([0, -2, -2, 0], (5, 3, 3, 99), [10 ** 20, 10 ** 20 - 2, 10 ** 20 - 2, -1]):
            self.assertEqual(levels_fault(meter, levels), None)

    def test_form(self):
        for wrong in (None, 5, "0000", {}, (), (0, -2, -2), (0, -2, -2, 0, 0), (0, -2, -2, True), (0, -2, -2, None),
                      ("0", -2, -2, 0), (0, (-2,), -2, 0)):
            self.assertEqual(levels_fault(example_meter(), wrong), "form")

    def test_arrow(self):
        for wrong in ((0, -1, -2, 0), (0, -2, -3, 0), (1, -2, -2, 0), (0, 0, 0, 0)):
            self.assertEqual(levels_fault(example_meter(), wrong), "arrow")
        self.assertEqual(levels_fault(Meter(loop(), 0, [0]), (0,)), "arrow")
        self.assertEqual(levels_fault(Meter(line(3), 0, [0, 0]), (9, -4, 7)), None)


class Results(unittest.TestCase):
    def test_kept(self):
        drift = Drift((0, 1), -2)
        self.assertEqual(vars(drift), {"ring": (0, 1), "by": -2})
        self.assertEqual(vars(Drift(by=3, ring=None)), {"ring": None, "by": 3})
        self.assertNotEqual(drift, Drift((0, 1), 2))
        self.assertNotEqual(drift, Drift((1, 0), -2))


if __name__ == "__main__":
    unittest.main()
