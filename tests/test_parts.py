"""[1.8] to [1.10]: parts and rings."""

import unittest
from itertools import islice

from helping import NO_NUMBERS, NO_SEQUENCES, Raises, dense, example, ladder, line, loop, random_chart, simple_rings
from helping import sources
from purseahead.charts import Chart
from purseahead.errors import BadArrow, BadPlace, BadRing
from purseahead.parts import check_ring, part_of, parts_of, ring_places, rings_of, within_part


def comes_to(chart, place, other):
    """Whether one comes from the place to the other along one arrow or more."""
    seen = set()
    waiting = [place]
    while waiting:
        at = waiting.pop()
        for tail, head in chart.arrows:
            if tail == at and head not in seen:
                seen.add(head)
                waiting.append(head)
    return other in seen


def plain_part(chart, place):
    both = tuple(other for other in range(len(chart))
                 if comes_to(chart, place, other) and comes_to(chart, other, place))
    return both or None


class Parts(Raises, unittest.TestCase):
    def test_example(self):
        self.assertEqual(parts_of(example()), ((0, 1, 2),))
        self.assertEqual([part_of(example(), place) for place in range(4)], [(0, 1, 2)] * 3 + [None])
        self.assertEqual([within_part(example(), arrow) for arrow in range(5)], [True] * 4 + [False])

    def test_several(self):
        chart = Chart([1] * 6, [(0, 5), (5, 2), (2, 5), (5, 1), (1, 1), (1, 3), (3, 4), (4, 3)])
        self.assertEqual(parts_of(chart), ((1,), (2, 5), (3, 4)))
        self.assertEqual(part_of(chart, 0), None)
        self.assertEqual([within_part(chart, arrow) for arrow in range(8)],
                         [False, True, True, False, True, False, True, True])

    def test_edges(self):
        self.assertEqual(parts_of(Chart([1], [])), ())
        self.assertEqual(parts_of(loop()), ((0,),))
        self.assertEqual(parts_of(line(16)), ())
        self.assertEqual(parts_of(ladder()), (tuple(range(16)),))
        self.assertEqual(parts_of(dense()), (tuple(range(16)),))

    def test_small_charts(self):
        for source in sources(80):
            chart = random_chart(source)
            found = [plain_part(chart, place) for place in range(len(chart))]
            self.assertEqual([part_of(chart, place) for place in range(len(chart))], found)
            self.assertEqual(parts_of(chart), tuple(sorted({part for part in found if part})))
            for arrow, (tail, head) in enumerate(chart.arrows):
                self.assertIs(within_part(chart, arrow), found[tail] is not None and head in found[tail])

    def test_refused(self):
        for wrong in (-1, 4, *NO_NUMBERS):
            self.refuses(BadPlace, {"place": wrong}, part_of, example(), wrong)
        for wrong in (-1, 5, *NO_NUMBERS):
            self.refuses(BadArrow, {"arrow": wrong}, within_part, example(), wrong)


class CheckingRings(Raises, unittest.TestCase):
    def bad(self, index, ring, chart=None):
        for work in (check_ring, ring_places):
            self.refuses(BadRing, {"index": index}, work, chart or example(), ring)

    def test_rings(self):
        for ring in ((0, 1), (1, 0), (3, 2), (0, 1, 2, 3), (2, 3, 2, 3)):
            self.assertEqual(check_ring(example(), ring), ring)
            self.assertEqual(check_ring(example(), list(ring)), ring)
            self.assertIsInstance(check_ring(example(), list(ring)), tuple)
        self.assertEqual(ring_places(example(), [1, 2, 3, 0]), (1, 0, 2, 0))
        self.assertEqual(ring_places(loop(), [0]), (0,))

    def test_lengths(self):
        self.assertEqual(len(check_ring(loop(), [0] * 400)), 400)
        self.assertEqual(len(ring_places(example(), (0, 1) * 200)), 400)
        self.bad(0, [0] * 401, loop())
        self.bad(0, (0, 1) * 201)
        self.bad(0, ())
        self.bad(0, [])

    def test_no_sequences(self):
        for wrong in NO_SEQUENCES:
            self.bad(0, wrong)

    def test_items(self):
        for wrong in (-1, 5, *NO_NUMBERS):
            self.bad(0, (wrong,))
            self.bad(1, (0, wrong))
            self.bad(2, [0, 1, wrong, 0])

    def test_apart(self):
        self.bad(1, (0, 2))
        self.bad(1, (0, 3, 9))
        self.bad(2, (2, 3, 1))

    def test_open(self):
        self.bad(0, (0,))
        self.bad(0, (4,))
        self.bad(2, (0, 1, 2))
        self.bad(1, (3, 4))
        self.bad(2, [2, 3, 4])


class Listing(unittest.TestCase):
    def test_example(self):
        self.assertEqual(list(rings_of(example())), [(0, 1), (2, 3)])

    def test_order(self):
        chart = Chart([1] * 3, [(1, 2), (0, 1), (2, 1), (1, 0), (2, 0), (1, 1), (0, 1)])
        self.assertEqual(list(rings_of(chart)), [(1, 0, 4), (1, 3), (6, 0, 4), (6, 3), (0, 2), (5,)])

    def test_edges(self):
        self.assertEqual(list(rings_of(Chart([1], []))), [])
        self.assertEqual(list(rings_of(line(16))), [])
        self.assertEqual(list(rings_of(Chart([1], [(0, 0)] * 32))), [(arrow,) for arrow in range(32)])

    def test_small_charts(self):
        for source in sources(100):
            chart = random_chart(source, most_places=6, most_arrows=11)
            self.assertEqual(list(rings_of(chart)), simple_rings(chart))

    def test_each_is_a_ring(self):
        rings = list(islice(rings_of(dense()), 500))
        for ring in rings:
            self.assertEqual(check_ring(dense(), ring), ring)
            places = ring_places(dense(), ring)
            self.assertEqual(len(set(places)), len(places))
            self.assertEqual(places[0], min(places))
        self.assertEqual(len(set(rings)), len(rings))
        self.assertEqual(rings, sorted(rings, key=lambda ring: (ring_places(dense(), ring)[0], ring)))

    def test_first_of_very_many(self):
        rings = list(islice(rings_of(ladder()), 3))
        first = tuple(range(0, 32, 2))
        self.assertEqual(rings, [first, first[:-1] + (31,), first[:-2] + (29, 30)])

    def test_no_time_is_lost(self):
        # From place 1 on there are 3 ** 10 ways, and none of them comes back to place 0.
        arrows = [(0, 0)] + [(place, place + 1) for place in range(10) for _ in range(3)] + [(10, 11)]
        chart = Chart([1] * 12, arrows)
        self.assertEqual(list(rings_of(chart)), [(0,)])


if __name__ == "__main__":
    unittest.main()
