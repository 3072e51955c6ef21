"""[6.9], [6.10] and [6.13]: least even leads of works, walks that forbid them, the fewest marks."""

import unittest
from itertools import product

from helping import NO_NUMBERS, NO_SEQUENCES, Raises, calling_ring, deep_works, is_deep_tuple, line, loop
from helping import place_subsets, sample_works, some_works, sources
from purseahead.charts import Chart
from purseahead.errors import BadWorkLot, TooMany
from purseahead.workleast import EvenWorks, FewestWorks, WorkWalk, check_work_lot, even_works_fault, fewest_work_lot
from purseahead.workleast import least_even_works, work_walk_fault
from purseahead.workmeters import even_works, is_metered_works, meter_from_leads
from purseahead.works import Works, list_called, list_marks, list_points

LOT = (("arrow", 1, 1), ("call", 0, 0))
LEADS = ((2, 3), (9, 4, 7))
NO_MARKS = (None, 3, "arrow", (), ("arrow",), ("arrow", 1), ("arrow", 1, 2), ("arrow", 2, 0), ("arrow", -1, 0),
            ("call", 0, 1), ("call", 1, 0), ("Call", 0, 0), ("arrow", True, 1), ("arrow", 1, True), ("call", False, 0),
            ("call", 0, False), ("arrow", 1, 1, 1), ("arrow", "1", 1), (1, 1, "arrow"), (None, 1, 1), {"arrow": 1})


def cost(works, spot):
    return 0 if spot[1] is None else works.charts[spot[0]].costs[spot[1]]


def ends_of(works, mark):
    """The spots from which and to which a mark's link leads."""
    kind, number, item = mark
    if kind == "arrow":
        tail, head = works.charts[number].arrows[item]
        called = works.calls[number][tail]
        return ((number, tail) if called is None else (called, None)), (number, head)
    if kind == "call":
        return (number, item), (works.calls[number][item], 0)
    return (number, item), (number, None)


def told_walk(works, steps):
    """The spots of a walk and its sum, or None if it does not hang together."""
    spots, total = [], 0
    for mark, sense in steps:
        start, end = ends_of(works, mark)
        left, reached = (start, end) if sense == "forward" else (end, start)
        if spots and spots[-1] != left:
            return None
        spots = spots or [left]
        spots.append(reached)
        total += cost(works, start) if sense == "back" else -cost(works, start)
    return spots, total


def chargeable(works):
    return [mark for mark in list_marks(works) if mark[0] != "end"]


def all_lots(works):
    """All lots of the works, by number of marks, then ascending."""
    marks = chargeable(works)
    return [tuple(marks[at] for at in subset) for subset in place_subsets(len(marks))]


def is_good(works, lot, leads):
    """Whether leads, by point, are even and covered for a lot."""
    leads = dict(leads)
    if any(leads[point] < cost(works, point) for point in list_points(works)):
        return False
    for number in list_called(works):
        behinds = {leads[(number, end)] - cost(works, (number, end)) for end in works.charts[number].ends}
        if len(behinds) > 1:
            return False
        leads[(number, None)] = behinds.pop()
    for mark in list_marks(works):
        start, end = ends_of(works, mark)
        more = leads[end] - leads[start] + cost(works, start)
        if more < 0 or (more > 0 and mark not in lot):
            return False
    return True


class WorkLots(Raises, unittest.TestCase):
    def test_taken(self):
        marks = chargeable(sample_works())
        for lot in ((), LOT, tuple(marks), marks[1:2]):
            self.assertEqual(check_work_lot(sample_works(), lot), tuple(lot))
            found = check_work_lot(sample_works(), [list(mark) for mark in lot])
            self.assertEqual(found, tuple(lot))
            self.assertTrue(is_deep_tuple(found))

    def test_refused(self):
        works = sample_works()
        asked = (check_work_lot, least_even_works, lambda works, lot: work_walk_fault(works, lot, None),
                 lambda works, lot: even_works_fault(works, lot, None))
        for work in asked:
            for wrong in NO_SEQUENCES:
                self.refuses(BadWorkLot, {"index": 0}, work, works, wrong)
            # Ends are marks, but none that a lot may hold.
            for wrong in (*NO_MARKS, ("end", 1, 1), ["end", 1, 2]):
                self.refuses(BadWorkLot, {"index": 0}, work, works, (wrong,))
                self.refuses(BadWorkLot, {"index": 1}, work, works, [("arrow", 0, 0), wrong, wrong])
            for index, lot in ((1, (LOT[0], LOT[0])), (1, LOT[::-1]), (2, (("arrow", 0, 0), LOT[0], ("arrow", 1, 0))),
                               (2, [*LOT, ("arrow", 0, 0), 7])):
                self.refuses(BadWorkLot, {"index": index}, work, works, lot)


class LeastEvenWorks(unittest.TestCase):
    def check(self, works, lot, found):
        """Judge a result by the points; return whether the lot is even."""
        if isinstance(found, WorkWalk):
            self.assertEqual(work_walk_fault(works, lot, found), None)
            self.assertTrue(is_deep_tuple(found.steps))
            spots, total = told_walk(works, found.steps)
            self.assertEqual(spots[0], spots[-1])
            self.assertGreater(total, 0)
            self.assertFalse([step for step in found.steps if step[1] == "back" and step[0] in lot])
            return False
        self.assertIsInstance(found, EvenWorks)
        self.assertEqual(even_works_fault(works, lot, found), None)
        self.assertTrue(is_deep_tuple(found.leads) and is_deep_tuple(found.chains))
        leads = {point: found.leads[point[0]][point[1]] for point in list_points(works)}
        self.assertTrue(is_good(works, lot, leads))
        for point in list_points(works):
            start, steps = found.chains[point[0]][point[1]]
            spots, total = told_walk(works, steps)
            self.assertEqual((start, point), (spots[0], spots[-1]) if steps else (point, point))
            self.assertEqual(leads[point], cost(works, start) + total)
            self.assertFalse([step for step in steps if step[1] == "back" and step[0] in lot])
        return True

    def test_example(self):
        found = least_even_works(sample_works(), LOT)
        self.assertTrue(self.check(sample_works(), LOT, found))
        self.assertEqual(found.leads, LEADS)
        self.assertEqual(least_even_works(sample_works(), [list(mark) for mark in LOT]), found)
        meter = meter_from_leads(sample_works(), found.leads)
        self.assertEqual((meter.calls, meter.arrows), (((9, 0), (0, 0, 0)), ((0,), (0, 3))))

    def test_others(self):
        works = sample_works()
        self.assertFalse(self.check(works, (), least_even_works(works, ())))
        found = least_even_works(works, (("arrow", 1, 1),))
        self.assertTrue(self.check(works, (("arrow", 1, 1),), found))
        self.assertEqual(found.leads, ((11, 3), (9, 4, 7)))
        everything = tuple(chargeable(works))
        self.assertEqual(least_even_works(works, everything).leads, ((2, 3), (5, 1, 4)))
        spin = Works([loop()], [(None,)])
        self.assertEqual(least_even_works(spin, ()), WorkWalk(((("arrow", 0, 0), "back"),)))
        self.assertEqual(least_even_works(spin, (("arrow", 0, 0),)), EvenWorks(((1,),), ((((0, 0), ()),),)))

    def test_ring_of_calls(self):
        # A call that calls itself again and again uses without end, unless an arrow or the call pays.
        works = Works([Chart([1, 2, 0], [(0, 1), (0, 2), (1, 2)])], [(None, 0, None)])
        self.assertFalse(self.check(works, (), least_even_works(works, ())))
        lot = (("arrow", 0, 0), ("call", 0, 1))
        found = least_even_works(works, lot)
        self.assertTrue(self.check(works, lot, found))
        self.assertEqual(found.leads, ((1, 2, 0),))
        for lot in all_lots(works):
            self.check(works, lot, least_even_works(works, lot))

    def test_all_lots(self):
        walks = evens = 0
        for works in some_works(35, most_places=2, most_arrows=2, most_cost=2, most_procedures=2):
            points = list_points(works)
            if len(points) > 4 or len(chargeable(works)) > 6:
                continue
            rows = list(product(range(8), repeat=len(points)))
            for lot in all_lots(works):
                found = least_even_works(works, lot)
                good = [row for row in rows if is_good(works, lot, zip(points, row))]
                if self.check(works, lot, found):
                    evens += 1
                    told = tuple(lead for row in found.leads for lead in row)
                    self.assertEqual(told, tuple(min(row) for row in zip(*good)))
                else:
                    walks += 1
                    self.assertEqual(good, [])
        self.assertGreater(walks, 20)
        self.assertGreater(evens, 60)

    def test_meters(self):
        for source, works in zip(sources(62), some_works(60, most_places=4, most_arrows=5)):
            for _ in range(6):
                lot = [mark for mark in chargeable(works) if source.random() < 0.7]
                found = least_even_works(works, lot)
                if self.check(works, lot, found):
                    meter = meter_from_leads(works, found.leads)
                    self.assertTrue(is_metered_works(meter))
                    self.assertTrue(set(meter.charged_marks) <= set(lot))
                    self.assertEqual(even_works(meter).leads, found.leads)

    def test_growing_lots(self):
        for works in some_works(20, most_places=2, most_arrows=3):
            if len(chargeable(works)) > 6:
                continue
            found = {lot: least_even_works(works, lot) for lot in all_lots(works)}
            for lot, even in found.items():
                for mark in set(chargeable(works)) - set(lot):
                    other = found[tuple(sorted((*lot, mark)))]
                    if isinstance(even, EvenWorks):
                        self.assertTrue(all(one <= two for rows in zip(other.leads, even.leads)
                                            for one, two in zip(*rows)))

    def test_largest(self):
        works = deep_works()
        for lot in ((), (("call", 0, 0),), tuple(mark for mark in chargeable(works) if mark[0] == "call"),
                    tuple(chargeable(works))):
            self.check(works, lot, least_even_works(works, lot))
        found = least_even_works(works, tuple(chargeable(works)))
        self.assertEqual(found.leads, tuple(chart.costs for chart in works.charts))
        # 15 places of the greatest cost behind one another, and a procedure that is called at the last but one.
        dear = Works([Chart([10 ** 9] * 13, line(13).arrows), Chart([10 ** 9], [])], [(None,) * 11 + (1, None), (None,)])
        found = least_even_works(dear, ())
        self.assertEqual(found.leads, (tuple(range(14 * 10 ** 9, 2 * 10 ** 9, -10 ** 9)) + (10 ** 9,), (2 * 10 ** 9,)))
        self.assertTrue(self.check(dear, (), found))


class JudgingWalks(unittest.TestCase):
    # Back along both arrows of the callee and forward along its ends: they may not be left with unlike leads.
    ROUND = ((("end", 1, 1), "forward"), (("end", 1, 2), "back"), (("arrow", 1, 1), "back"),
             (("arrow", 1, 0), "forward"))

    def fault(self, steps, lot=()):
        return work_walk_fault(sample_works(), lot, WorkWalk(steps))

    def test_right(self):
        for steps in (self.ROUND, list(self.ROUND), [[list(mark), sense] for mark, sense in self.ROUND],
                      self.ROUND[1:] + self.ROUND[:1], self.ROUND * 2):
            self.assertEqual(self.fault(steps), None)
            self.assertEqual(self.fault(steps, [("arrow", 0, 0), ["arrow", 1, 0]]), None)

    def test_step(self):
        for wrong in (None, 3, "back", {}, {self.ROUND[0]: 1}, True):
            self.assertEqual(self.fault(wrong), "step")
        steps = [(mark, "back") for mark in NO_MARKS]
        for wrong in (*steps, None, 3, "back", (), (LOT[0],), (LOT[0], "Back"), (LOT[0], None), (LOT[0], "back", 0),
                      ("back", LOT[0]), LOT[0], (LOT[0], ["back"]), (("end", 1, 0), "back"), (("end", 0, 1), "back")):
            self.assertEqual(self.fault((wrong,)), "step")
            self.assertEqual(self.fault([*self.ROUND, wrong]), "step")
        # It does not begin where the one before ended.
        for wrong in (self.ROUND[::2], self.ROUND[::-1], (self.ROUND[0], self.ROUND[0]),
                      ((LOT[1], "forward"), (("arrow", 0, 0), "forward"))):
            self.assertEqual(self.fault(wrong), "step")

    def test_closed(self):
        for wrong in ((), [], self.ROUND[:3], self.ROUND[1:], ((LOT[1], "back"),), ((LOT[1], "back"), self.ROUND[0])[:1]):
            self.assertEqual(self.fault(wrong), "closed")
            self.assertEqual(self.fault(wrong, LOT), "closed")

    def test_sense(self):
        self.assertEqual(self.fault(self.ROUND, LOT), "sense")
        self.assertEqual(self.fault(self.ROUND, [("arrow", 1, 1)]), "sense")
        self.assertEqual(self.fault([[list(mark), sense] for mark, sense in self.ROUND], LOT), "sense")
        self.assertEqual(self.fault(((LOT[1], "forward"), (LOT[1], "back")), LOT), "sense")

    def test_sum(self):
        turned = tuple((mark, "back" if sense == "forward" else "forward") for mark, sense in reversed(self.ROUND))
        self.assertEqual(self.fault(turned), "sum")
        self.assertEqual(self.fault(((LOT[1], "forward"), (LOT[1], "back"))), "sum")
        still = Works([Chart([0], [(0, 0)])], [(None,)])
        self.assertEqual(work_walk_fault(still, (), WorkWalk(((("arrow", 0, 0), "back"),))), "sum")

    def test_all_short_walks(self):
        # A lot is even exactly if no short closed walk is found right.
        for works in some_works(14, most_places=2, most_arrows=2, most_cost=2, most_procedures=2):
            if len(list_marks(works)) > 4 or len(list_points(works)) > 3:
                continue
            steps = [(mark, sense) for mark in list_marks(works) for sense in ("forward", "back")]
            for lot in all_lots(works):
                right = any(work_walk_fault(works, lot, WorkWalk(walk)) is None
                            for length in (1, 2, 3, 4) for walk in product(steps, repeat=length))
                self.assertEqual(right, isinstance(least_even_works(works, lot), WorkWalk))


class JudgingLeads(unittest.TestCase):
    def setUp(self):
        self.right = least_even_works(sample_works(), LOT)

    def fault(self, leads=None, chains=None, lot=LOT):
        even = EvenWorks(self.right.leads if leads is None else leads, self.right.chains if chains is None else chains)
        return even_works_fault(sample_works(), lot, even)

    def test_right(self):
        self.assertEqual(self.fault(), None)
        self.assertEqual(self.fault(lot=[list(mark) for mark in LOT]), None)
        # A longer walk that tells the same.
        there = (("call", 0, 0), "forward")
        rows = [list(row) for row in self.right.chains]
        rows[0][0] = ((0, 0), ())
        self.assertEqual(self.fault(chains=tuple(tuple(row) for row in rows)), None)
        rows[1][0] = ((0, 1), rows[1][0][1] + ((("arrow", 1, 0), "forward"), (("arrow", 1, 0), "back")))
        self.assertEqual(self.fault(chains=tuple(tuple(row) for row in rows)), None)
        rows[1][0] = ((0, 0), (there,))
        self.assertEqual(self.fault(chains=tuple(tuple(row) for row in rows)), "chain")

    def test_leads(self):
        for wrong in (7, "x", (), ((2, 3),), ((2, 3), (9, 4, 7), ()), ((2,), (9, 4, 7)), ((2, 3), (9, 4)),
                      ((2, 3), (9, 4, 7, 0)), ((2, 3), None), ((2, 3), 9), {0: (2, 3)}):
            self.assertEqual(self.fault(wrong), "leads")
            self.assertEqual(self.fault(wrong, 7), "leads")
        for wrong in NO_NUMBERS:
            self.assertEqual(self.fault(((2, 3), (9, wrong, 7))), "leads")

    def test_demand(self):
        for wrong in (((1, 3), (9, 4, 7)), ((2, 2), (9, 4, 7)), ((2, 3), (9, 4, 6)), ((2, 3), (9, 5, 8)),
                      ((2, 4), (9, 4, 7)), ((12, 3), (9, 4, 7)), ((2, 3), (8, 3, 6)), ((-2, 3), (9, 4, 7)),
                      ((2, 0), (6, 1, 4))):
            self.assertEqual(self.fault(wrong), "demand")
            self.assertEqual(self.fault(wrong, 7), "demand")
        # Greater ones may meet all demands, but no chains tell them.
        self.assertEqual(self.fault(((3, 4), (10, 5, 8))), "chain")
        self.assertEqual(self.fault(lot=()), "demand")
        self.assertEqual(self.fault(lot=LOT[:1]), "demand")
        self.assertEqual(self.fault(lot=LOT[1:]), "demand")

    def test_chain(self):
        for wrong in (7, "x", (), self.right.chains[:1], (*self.right.chains, ()), (self.right.chains[0], ()),
                      (self.right.chains[0], None), (self.right.chains[1], self.right.chains[0])):
            self.assertEqual(self.fault(chains=wrong), "chain")
        end = ("end", 1, 1)
        for wrong in (None, 3, (), ((0, 0),), ((0, 0), (), ()), ((0, 0), None), ((0, 0), 7), ((0, 1), ()), ((1, 0), ()),
                      ((1, None), ()), ((2, 0), ()), ((0, None), ()), ((False, 0), ()), ((0, False), ()), (None, ()),
                      (0, ()), ((0, 0, 0), ()), ((0, 0), (("call", 0, 0),)), ((0, 0), ((LOT[1], "forward"),)),
                      ((0, 1), ((("arrow", 0, 0), "back"), (end, "back"), (("arrow", 1, 0), "back"), (LOT[1], "back"))),
                      ((0, 0), ((LOT[1], "forward"), (LOT[1], "back"))), ((1, 0), ((LOT[1], "forward"),))):
            self.assertEqual(self.fault(chains=((wrong, self.right.chains[0][1]), self.right.chains[1])), "chain")

    def test_chain_of_another_point(self):
        # Costs and sums would fit, but not the point, or not the start.
        works = Works([Chart([0, 0, 0], [(0, 1), (1, 2)])], [(None,) * 3])
        first, second = (("arrow", 0, 0), "forward"), (("arrow", 0, 1), "forward")
        for chain, told in ((((0, 2), ()), None), (((0, 1), (second,)), None), (((0, 0), (first, second)), None),
                            (((0, 1), ()), "chain"), (((0, 0), ()), "chain"), (((0, 0), (first,)), "chain"),
                            (((0, 0), (second,)), "chain"), (((0, 2), (first, second)), "chain")):
            even = EvenWorks(((0, 0, 0),), ((((0, 0), ()), ((0, 1), ()), chain),))
            self.assertEqual(even_works_fault(works, (), even), told)

    def test_chain_from_a_return_place(self):
        # The lead behind the only end is 0, which is the cost of the return place.
        works = Works([line(2), Chart([2], [])], [(1, None), (None,)])
        lot = (("arrow", 0, 0),)
        found = least_even_works(works, lot)
        self.assertEqual(found.leads, ((3, 1), (2,)))
        chains = ((found.chains[0][0], found.chains[0][1]), (((1, None), ((("end", 1, 0), "back"),)),))
        self.assertEqual(even_works_fault(works, lot, EvenWorks(found.leads, chains)), None)
        for start in ((True, None), (0, None), (1, 0), (1, False), (1, 1), (2, None), None, 1):
            wrong = (chains[0], ((start, ((("end", 1, 0), "back"),)),))
            self.assertEqual(even_works_fault(works, lot, EvenWorks(found.leads, wrong)), "chain")
        chains = (chains[0], (((1, None), ()),))
        self.assertEqual(even_works_fault(works, lot, EvenWorks(found.leads, chains)), "chain")


class FewestMarks(Raises, unittest.TestCase):
    def test_example(self):
        self.assertEqual(fewest_work_lot(sample_works()), FewestWorks(1, (("arrow", 1, 1),)))
        self.assertTrue(is_deep_tuple(fewest_work_lot(sample_works()).lot))
        self.assertEqual(fewest_work_lot(Works([line(4)], [(None,) * 4])), FewestWorks(0, ()))
        self.assertEqual(fewest_work_lot(Works([loop()], [(None,)])), FewestWorks(1, (("arrow", 0, 0),)))

    def test_all_lots(self):
        found = set()
        for works in some_works(60, most_places=3, most_arrows=3):
            if len(chargeable(works)) > 7:
                continue
            lot = next(lot for lot in all_lots(works) if isinstance(least_even_works(works, lot), EvenWorks))
            self.assertEqual(fewest_work_lot(works), FewestWorks(len(lot), lot))
            found.add(len(lot))
        self.assertGreaterEqual(found, {0, 1, 2})

    def test_ten_and_eleven(self):
        # 9 arrows and a call, then a call more, then an arrow more.
        ways = Chart([1, 0, 0], [(0, 1)] * 4 + [(1, 2)] * 5)
        ten = Works([ways, Chart([2], [])], [(1, None, None), (None,)])
        self.assertEqual(fewest_work_lot(ten), FewestWorks(0, ()))
        both = Works([ways, Chart([2], [])], [(1, 1, None), (None,)])
        self.refuses(TooMany, {"count": 11}, fewest_work_lot, both)
        more = Works([Chart([1, 0, 0], [*ways.arrows, (0, 2)]), Chart([2], [])], [(1, None, None), (None,)])
        self.refuses(TooMany, {"count": 11}, fewest_work_lot, more)
        self.refuses(TooMany, {"count": 11}, fewest_work_lot, calling_ring())
        rings = Works([Chart([1] * 6, [(0, at) for at in range(1, 6)] + [(at, 0) for at in range(1, 6)])], [(None,) * 6])
        self.assertEqual(fewest_work_lot(rings), FewestWorks(5, tuple(("arrow", 0, at) for at in range(5))))


if __name__ == "__main__":
    unittest.main()
