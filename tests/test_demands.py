"""[3.1] to [3.4]: demands on rows of numbers."""

import unittest
from itertools import product

from helping import NO_NUMBERS, NO_SEQUENCES, Raises, is_deep_tuple, sources
from purseahead.demands import DemandRing, Least, check_demands, greatest_numbers, least_fault, least_numbers
from purseahead.demands import ring_fault
from purseahead.errors import BadDemands, BadHighs

ROOTS = ((0, None, 1), (1, None, 2), (2, None, 3))


def roots(count, by=0):
    return [(place, None, by) for place in range(count)]


def meets(row, demands, rooted=True):
    for place, start, by in demands:
        if start is None:
            if rooted and row[place] < by:
                return False
        elif row[place] < row[start] + by:
            return False
    return True


def random_system(source, most=4):
    """A count and demands that a row may or may not meet, all bys small."""
    count = source.randint(1, most)
    demands = [(place, None, source.randint(-2, 2)) for place in range(count)]
    for _ in range(source.randint(0, 6)):
        start = source.choice([None, *range(count)])
        demands.append((source.randrange(count), start, source.randint(-4, 2)))
    source.shuffle(demands)
    return count, demands


def box(count, low, high):
    return product(range(low, high + 1), repeat=count)


class Checking(Raises, unittest.TestCase):
    def bad(self, what, index, count, demands):
        attributes = {"what": what, "index": index}
        self.refuses(BadDemands, attributes, check_demands, count, demands)
        self.refuses(BadDemands, attributes, least_numbers, count, demands)
        self.refuses(BadDemands, attributes, greatest_numbers, count, demands, None)
        self.refuses(BadDemands, attributes, least_fault, count, demands, None)
        self.refuses(BadDemands, attributes, ring_fault, count, demands, None)

    def test_taken(self):
        demands = [[0, None, 1], (1, None, 2), [2, 0, -10 ** 12], (2, None, 10 ** 12)]
        told = ((0, None, 1), (1, None, 2), (2, 0, -10 ** 12), (2, None, 10 ** 12))
        self.assertEqual(check_demands(3, demands), told)
        self.assertEqual(check_demands(3, tuple(demands)), told)
        self.assertTrue(is_deep_tuple(check_demands(3, demands)))
        self.assertEqual(demands, [[0, None, 1], (1, None, 2), [2, 0, -10 ** 12], (2, None, 10 ** 12)])

    def test_nothing_is_kept(self):
        demands = [[0, None, 1]]
        told = check_demands(1, demands)
        demands[0][2] = 9
        demands.append([0, None, 5])
        self.assertEqual(told, ((0, None, 1),))

    def test_count(self):
        self.assertEqual(check_demands(60, roots(60)), tuple(roots(60)))
        for wrong in (0, -1, 61, *NO_NUMBERS):
            self.bad("count", 0, wrong, roots(1))
            self.bad("count", 0, wrong, None)

    def test_many(self):
        self.assertEqual(len(check_demands(1, [(0, 0, 0)] * 399 + roots(1))), 400)
        self.bad("many", 0, 1, roots(1) * 401)
        self.bad("many", 0, 1, [None] * 401)
        for wrong in NO_SEQUENCES:
            self.bad("many", 0, 1, wrong)

    def test_demands(self):
        for wrong in (None, 3, "000", (), (0, None), (0, None, 0, 0), {0: 1, 1: 2, 2: 3}):
            self.bad("demand", 0, 3, [wrong, *ROOTS])
            self.bad("demand", 3, 3, [*ROOTS, wrong, wrong])
        for wrong in (-1, 3, *NO_NUMBERS):
            self.bad("demand", 3, 3, [*ROOTS, (wrong, None, 0)])
            self.bad("demand", 2, 3, [*ROOTS[:2], [wrong, 0, 0], ROOTS[2]])
        for wrong in (-1, 3, *[each for each in NO_NUMBERS if each is not None]):
            self.bad("demand", 3, 3, [*ROOTS, (0, wrong, 0)])
        for wrong in (-10 ** 12 - 1, 10 ** 12 + 1, *NO_NUMBERS):
            self.bad("demand", 3, 3, [*ROOTS, (0, None, wrong)])
            self.bad("demand", 1, 3, [ROOTS[0], (0, 1, wrong), *ROOTS])

    def test_root(self):
        self.bad("root", 0, 1, [])
        self.bad("root", 0, 1, [(0, 0, 0)])
        self.bad("root", 1, 3, [ROOTS[0], (1, 0, 5), (2, 1, 5)])
        self.bad("root", 2, 3, [ROOTS[1], ROOTS[0], (2, 1, 5)])
        self.bad("root", 59, 60, roots(59))

    def test_first_word(self):
        self.bad("count", 0, 0, [None] * 401)
        self.bad("demand", 0, 2, [(0, 5, 0)])
        self.bad("many", 0, 2, [(0, 5, 0)] * 401)


class LeastNumbers(unittest.TestCase):
    def check(self, count, demands):
        found = least_numbers(count, demands)
        if isinstance(found, Least):
            self.assertEqual(least_fault(count, demands, found), None)
            self.assertTrue(meets(found.numbers, demands))
            self.assertTrue(is_deep_tuple(found.numbers) and is_deep_tuple(found.reasons))
        else:
            self.assertIsInstance(found, DemandRing)
            self.assertEqual(ring_fault(count, demands, found), None)
            self.check_ring(demands, found.indexes)
        return found

    def check_ring(self, demands, ring):
        for index, following in zip(ring, ring[1:] + ring[:1]):
            self.assertEqual(demands[index][0], demands[following][1])
        self.assertGreater(sum(demands[index][2] for index in ring), 0)

    def test_ordinary(self):
        demands = [*ROOTS, (1, 0, 4), (2, 1, -3), (0, 2, -2)]
        self.assertEqual(self.check(3, demands), Least((1, 5, 3), (0, 3, 2)))
        self.assertEqual(self.check(1, [(0, None, -7)]), Least((-7,), (0,)))
        self.assertEqual(self.check(1, [(0, None, -7), [0, None, 3], (0, None, 3)]).numbers, (3,))

    def test_rings(self):
        self.assertEqual(self.check(1, [(0, None, 0), (0, 0, 1)]), DemandRing((1,)))
        self.assertEqual(self.check(1, [(0, None, 0), (0, 0, 0)]).numbers, (0,))
        found = self.check(3, [*ROOTS, (0, 1, 5), (1, 2, -3), (2, 0, -1)])
        self.assertEqual(sorted(found.indexes), [3, 4, 5])
        self.assertEqual(self.check(3, [*ROOTS, (0, 1, 5), (1, 2, -3), (2, 0, -2)]).numbers, (7, 2, 5))

    def test_ring_of_zero(self):
        # Two numbers hold each other up; still their reasons lead to a root.
        demands = [(0, None, 0), (1, None, 0), (0, 1, 0), (1, 0, 0), (2, None, -5), (0, 2, 5), (2, 0, -5)]
        self.assertEqual(self.check(3, demands).numbers, (0, 0, -5))

    def test_small_systems(self):
        rings = 0
        for source in sources(250):
            count, demands = random_system(source)
            found = self.check(count, demands)
            rows = [row for row in box(count, -2, 10) if meets(row, demands)] if count < 4 else None
            if isinstance(found, DemandRing):
                rings += 1
                self.assertFalse(rows)
            elif rows is not None:
                self.assertEqual(found.numbers, tuple(min(row) for row in zip(*rows)))
        self.assertGreater(rings, 30)

    def test_demands_stay(self):
        demands = [[0, None, 1], [1, None, 0], [1, 0, 2]]
        self.assertEqual(least_numbers(2, demands), Least((1, 3), (0, 2)))
        greatest_numbers(2, demands, [5, 5])
        self.assertEqual(demands, [[0, None, 1], [1, None, 0], [1, 0, 2]])

    def test_largest(self):
        # The demands in the order in which the numbers settle last.
        chain = [(place + 1, place, 10 ** 12) for place in range(58, -1, -1)]
        demands = roots(60) + chain + [(0, 59, -10 ** 12)] * (400 - 119)
        found = self.check(60, roots(60) + chain)
        self.assertEqual(found.numbers, tuple(10 ** 12 * place for place in range(60)))
        ring = self.check(60, demands)
        self.assertIsInstance(ring, DemandRing)
        self.assertEqual(len(ring.indexes), 60)
        level = roots(60) + [(place + 1, place, 1) for place in range(58, -1, -1)] + [(0, 59, -59)] * 281
        self.assertEqual(self.check(60, level).numbers, tuple(range(60)))
        raised = level[:-1] + [(0, 59, -58)]
        self.assertEqual(len(self.check(60, raised).indexes), 60)

    def test_many_ways(self):
        # Five demands between neighbours: 5 ** 59 rows of demands lead to the last number.
        demands = roots(60) + [(place + 1, place, by) for by in range(5) for place in range(59)]
        self.assertEqual(self.check(60, demands).numbers, tuple(4 * place for place in range(60)))

    def test_large_random_systems(self):
        for source in sources(12):
            demands = roots(60, -10 ** 12)
            hidden = [source.randint(-10 ** 11, 10 ** 11) for _ in range(60)]
            for _ in range(340):
                place, start = source.randrange(60), source.randrange(60)
                slack = source.choice([0, 0, 5, 10 ** 9])
                demands.append((place, start, hidden[place] - hidden[start] - slack))
            source.shuffle(demands)
            self.assertIsInstance(self.check(60, demands), Least)
            place, start = source.sample(range(60), 2)
            demands[demands.index((0, None, -10 ** 12))] = (0, None, 10 ** 12)
            self.check(60, demands)
            at = next(at for at, demand in enumerate(demands) if demand[1] is not None)
            broken = demands[:at] + [(place, start, hidden[place] - hidden[start] + 1)] + demands[at + 1:]
            self.check(60, broken)


class GreatestNumbers(Raises, unittest.TestCase):
    def test_ordinary(self):
        demands = [*ROOTS, (1, 0, 4), (2, 1, -3), (0, 2, -2)]
        self.assertEqual(greatest_numbers(3, demands, (9, 9, 9)), (5, 9, 7))
        self.assertEqual(greatest_numbers(3, demands, [9, 9, 5]), (4, 8, 5))
        self.assertEqual(greatest_numbers(1, [(0, None, 5)], (3,)), (3,))
        self.assertEqual(greatest_numbers(1, [(0, None, 5)], (-10 ** 12,)), (-10 ** 12,))
        self.assertEqual(greatest_numbers(1, [(0, None, 5)], (10 ** 12,)), (10 ** 12,))

    def test_rings(self):
        self.assertEqual(greatest_numbers(1, [(0, None, 0), (0, 0, 1)], (0,)), DemandRing((1,)))
        demands = [*ROOTS, (0, 1, 5), (1, 2, -3), (2, 0, -1)]
        found = greatest_numbers(3, demands, (0, 0, 0))
        self.assertEqual(sorted(found.indexes), [3, 4, 5])
        self.assertEqual(ring_fault(3, demands, found), None)

    def test_small_systems(self):
        rings = 0
        for source in sources(250):
            count, demands = random_system(source, most=3)
            highs = [source.randint(-3, 3) for _ in range(count)]
            found = greatest_numbers(count, demands, highs)
            rows = [row for row in box(count, -12, 3) if meets(row, demands, rooted=False)
                    and all(number <= high for number, high in zip(row, highs))]
            if isinstance(found, DemandRing):
                rings += 1
                self.assertEqual(rows, [])
                self.assertEqual(ring_fault(count, demands, found), None)
                self.assertTrue(is_deep_tuple(found.indexes))
            else:
                self.assertEqual(found, tuple(max(row) for row in zip(*rows)))
                self.assertTrue(is_deep_tuple(found))
        self.assertGreater(rings, 30)

    def test_largest(self):
        chain = [(place, place + 1, 1) for place in range(58, -1, -1)]
        found = greatest_numbers(60, roots(60) + chain[::-1], [10 ** 12] * 60)
        self.assertEqual(found, tuple(10 ** 12 - place for place in range(60)))
        self.assertEqual(greatest_numbers(60, roots(60) + chain, [10 ** 12] * 60), found)
        ring = roots(60) + chain + [(59, 0, -58)]
        found = greatest_numbers(60, ring, [0] * 60)
        self.assertEqual(len(found.indexes), 60)
        self.assertEqual(ring_fault(60, ring, found), None)
        self.assertEqual(greatest_numbers(60, roots(60) + chain + [(59, 0, -59)] * 281, [0] * 60),
                         tuple(-place for place in range(60)))

    def test_highs(self):
        for wrong in (*NO_SEQUENCES, (), (0, 0), (0,) * 4, [None] * 4):
            self.refuses(BadHighs, {"index": 0}, greatest_numbers, 3, ROOTS, wrong)
        for wrong in (-10 ** 12 - 1, 10 ** 12 + 1, *NO_NUMBERS):
            self.refuses(BadHighs, {"index": 0}, greatest_numbers, 3, ROOTS, [wrong, 0, 0])
            self.refuses(BadHighs, {"index": 1}, greatest_numbers, 3, ROOTS, (0, wrong, wrong))

    def test_demands_come_first(self):
        self.refuses(BadDemands, {"what": "root", "index": 2}, greatest_numbers, 3, ROOTS[:2], None)
        self.refuses(BadHighs, {"index": 0}, greatest_numbers, 1, [(0, None, 0), (0, 0, 1)], None)


class JudgingLeast(unittest.TestCase):
    DEMANDS = (*ROOTS, (1, 0, 4), (2, 1, -3), (0, 2, -2))

    def fault(self, numbers, reasons, demands=DEMANDS):
        return least_fault(len({demand[0] for demand in demands}), demands, Least(numbers, reasons))

    def test_right(self):
        self.assertEqual(self.fault((1, 5, 3), (0, 3, 2)), None)
        self.assertEqual(self.fault((2, 6, 3), (0, 3, 2), ((0, None, 2), *self.DEMANDS[1:])), None)

    def test_numbers(self):
        for wrong in ([1, 5, 3], None, 5, (), (1, 5), (1, 5, 3, 0), (1, 5, True), (1, 5, "3"), (1, 5, None)):
            self.assertEqual(self.fault(wrong, (0, 3, 2)), "numbers")
            self.assertEqual(self.fault(wrong, None), "numbers")

    def test_reason(self):
        for wrong in ([0, 3, 2], None, 5, (), (0, 3), (0, 3, 2, 0), (False, 3, 2), (0, "3", 2), (0, None, 2),
                      (0, 3, 6), (-6, 3, 2), (-1, 3, 2), (0, 3, -1), (1, 3, 2), (0, 4, 2), (0, 0, 2), (0, [3], 2)):
            self.assertEqual(self.fault((1, 5, 3), wrong), "reason")
            self.assertEqual(self.fault((0, 0, 0), wrong), "reason")

    def test_demand(self):
        self.assertEqual(self.fault((1, 4, 3), (0, 3, 2)), "demand")
        self.assertEqual(self.fault((0, 5, 3), (0, 3, 2)), "demand")
        self.assertEqual(self.fault((2, 9, 3), (0, 3, 2)), "demand")

    def test_met(self):
        self.assertEqual(self.fault((2, 6, 3), (0, 3, 2)), "met")
        self.assertEqual(self.fault((1, 6, 3), (0, 3, 2)), "met")
        self.assertEqual(self.fault((1, 5, 3), (0, 1, 2)), "met")

    def test_ring(self):
        demands = ((0, None, 0), (1, None, 0), (0, 1, 2), (1, 0, -2), (2, None, 0), (2, 2, 0))
        self.assertEqual(self.fault((9, 7, 0), (2, 3, 4), demands), "ring")
        self.assertEqual(self.fault((2, 0, 5), (2, 1, 5), demands), "ring")
        self.assertEqual(self.fault((2, 0, 0), (2, 1, 4), demands), None)

    def test_not_least(self):
        # What is met with reasons that lead to roots is the least row.
        for source in sources(40):
            count, demands = random_system(source, most=2)
            rows = [row for row in box(count, -2, 6) if meets(row, demands)]
            right = [(row, reasons) for row in rows for reasons in product(range(len(demands)), repeat=count)
                     if least_fault(count, demands, Least(row, reasons)) is None]
            found = least_numbers(count, demands)
            if isinstance(found, Least):
                self.assertEqual({row for row, _ in right}, {found.numbers})
                self.assertIn((found.numbers, found.reasons), right)
            else:
                self.assertEqual(right, [])


class JudgingRings(unittest.TestCase):
    DEMANDS = (*ROOTS, (0, 1, 5), (1, 2, -3), (2, 0, -1), (0, 2, 1), (1, 1, 1))

    def fault(self, indexes):
        return ring_fault(3, self.DEMANDS, DemandRing(indexes))

    def test_right(self):
        for ring in ((5, 4, 3), (4, 3, 5), (3, 5, 4), (7,), (7, 7), (5, 4, 3) * 2, (5, 4, 7, 3)):
            self.assertEqual(self.fault(ring), None)

    def test_index(self):
        for wrong in ([5, 4, 3], None, 7, (), (0,), (5, 4, 0), (8,), (-1,), (True,), ("7",), (None,), (7.0,), ((7,),)):
            self.assertEqual(self.fault(wrong), "index")

    def test_closed(self):
        for wrong in ((3, 4, 5), (5,), (5, 4), (4, 3), (7, 5), (5, 5)):
            self.assertEqual(self.fault(wrong), "closed")

    def test_sum(self):
        self.assertEqual(self.fault((5, 6)), "sum")
        self.assertEqual(ring_fault(1, [(0, None, 0), (0, 0, -1)], DemandRing((1,))), "sum")


class Results(unittest.TestCase):
    def test_kept(self):
        self.assertEqual(vars(Least((1,), (0,))), {"numbers": (1,), "reasons": (0,)})
        self.assertEqual(vars(DemandRing((3,))), {"indexes": (3,)})
        self.assertNotEqual(Least((1,), (0,)), Least((1,), (1,)))
        self.assertNotEqual(DemandRing((3,)), DemandRing((4,)))
        self.assertNotEqual(DemandRing((3,)), (3,))


if __name__ == "__main__":
    unittest.main()
