"""[3.5] to [3.8]: lots, their demands, steps and bad walks."""

import unittest
from itertools import product

from helping import NO_NUMBERS, NO_SEQUENCES, Raises, all_lots, dense, example, is_deep_tuple, ladder, loop
from helping import random_chart, sources
from purseahead.charts import Chart
from purseahead.errors import BadLeads, BadLot, BadPlace
from purseahead.evenness import BadWalk, Even, check_leads, check_lot, first_unmet, lot_demands, walk_fault
from purseahead.evenness import walk_places, walk_sum
from purseahead.meters import Meter

NO_STEPS = (None, 3, "back", (), (2,), (2, "back", 0), [2, "back"], (5, "back"), (-1, "back"), (True, "forward"),
            ("2", "back"), (None, "back"), (2, "Back"), (2, ""), (2, None), (2, 1), (2, b"back"), ("back", 2),
            ([2], "back"), (2, ["back"]), {2: 0, "back": 1})


class Lots(Raises, unittest.TestCase):
    def test_taken(self):
        for lot in ((), (0,), (4,), (1, 3), (0, 1, 2, 3, 4)):
            self.assertEqual(check_lot(example(), lot), lot)
            self.assertEqual(check_lot(example(), list(lot)), lot)
            self.assertIsInstance(check_lot(example(), list(lot)), tuple)
        self.assertEqual(check_lot(ladder(), list(range(32))), tuple(range(32)))
        self.assertEqual(check_lot(Chart([1], []), []), ())

    def bad(self, index, lot, chart=None):
        chart = chart or example()
        attributes = {"index": index}
        self.refuses(BadLot, attributes, check_lot, chart, lot)
        self.refuses(BadLot, attributes, lot_demands, chart, lot)
        self.refuses(BadLot, attributes, first_unmet, chart, lot, None)
        self.refuses(BadLot, attributes, walk_fault, chart, lot, None)

    def test_refused(self):
        for wrong in NO_SEQUENCES:
            self.bad(0, wrong)
        for wrong in (-1, 5, *NO_NUMBERS):
            self.bad(0, (wrong,))
            self.bad(1, [0, wrong, wrong])
        self.bad(1, (1, 1))
        self.bad(1, (3, 1))
        self.bad(2, (0, 3, 2, 9))
        self.bad(2, (0, 1, 5))
        self.bad(0, (0,), Chart([1], []))
        self.bad(1, [0, True])
        self.bad(5, [0, 1, 2, 3, 4, 4])


class Leads(Raises, unittest.TestCase):
    def test_taken(self):
        for leads in ((6, 4, 4, 4), [6, 4, 4, 4], (0, 0, 0, 0), [5 * 10 ** 11] * 4):
            self.assertEqual(check_leads(example(), leads), tuple(leads))
            self.assertIsInstance(check_leads(example(), leads), tuple)

    def test_refused(self):
        for work in (lambda leads: check_leads(example(), leads), lambda leads: first_unmet(example(), (1, 3), leads)):
            for wrong in (*NO_SEQUENCES, (), (6, 4, 4), (6, 4, 4, 4, 4), [None] * 5):
                self.refuses(BadLeads, {"index": 0}, work, wrong)
            for wrong in (-1, 5 * 10 ** 11 + 1, *NO_NUMBERS):
                self.refuses(BadLeads, {"index": 0}, work, (wrong, 4, 4, 4))
                self.refuses(BadLeads, {"index": 2}, work, [6, 4, wrong, wrong])


class Demands(unittest.TestCase):
    def test_example(self):
        told = [(0, None, 2, ("cost",)), (1, None, 3, ("cost",)), (2, None, 4, ("cost",)), (3, None, 1, ("cost",)),
                (1, 0, -2, (0, "forward")), (0, 1, -3, (1, "forward")), (2, 0, -2, (2, "forward")),
                (0, 2, -4, (3, "forward")), (3, 0, -2, (4, "forward")),
                (0, 1, 2, (0, "back")), (0, 2, 2, (2, "back")), (0, 3, 2, (4, "back"))]
        for lot in ((1, 3), [1, 3]):
            self.assertEqual(list(lot_demands(example(), lot)), told)
        self.assertTrue(all(is_deep_tuple(demand) for demand in lot_demands(example(), [1, 3])))

    def test_lots(self):
        self.assertEqual(list(lot_demands(loop(), ())),
                         [(0, None, 1, ("cost",)), (0, 0, -1, (0, "forward")), (0, 0, 1, (0, "back"))])
        self.assertEqual(list(lot_demands(loop(), (0,))), [(0, None, 1, ("cost",)), (0, 0, -1, (0, "forward"))])
        self.assertEqual(len(list(lot_demands(dense(), ()))), 16 + 32 + 32)
        self.assertEqual(len(list(lot_demands(dense(), list(range(32))))), 16 + 32)

    def test_what_the_demands_say(self):
        # Leads meet them exactly if they are the covered leads of a meter that charges arrows of the lot alone.
        for source in sources(12):
            chart = random_chart(source, most_places=3, most_arrows=4, most_cost=2)
            for lot in all_lots(chart):
                demands = list(lot_demands(chart, lot))
                for leads in product(range(5), repeat=len(chart)):
                    met = all(leads[place] >= (by if start is None else leads[start] + by)
                              for place, start, by, _ in demands)
                    self.assertEqual(met, is_even_and_covered(chart, lot, leads))
                    self.assertEqual(first_unmet(chart, lot, leads) is None, met)


def is_even_and_covered(chart, lot, leads):
    charges = [leads[head] - leads[tail] + chart.costs[tail] for tail, head in chart.arrows]
    if any(charge < 0 or (charge > 0 and arrow not in lot) for arrow, charge in enumerate(charges)):
        return False
    Meter(chart, leads[0], charges)
    return all(lead >= cost for lead, cost in zip(leads, chart.costs))


class Unmet(unittest.TestCase):
    def test_first(self):
        for lot, leads, told in (
                ((1, 3), (6, 4, 4, 4), None), ([1, 3], [6, 4, 4, 4], None),
                ((1, 3), (1, 4, 4, 0), (0, ("cost",))), ((1, 3), (6, 4, 4, 0), (3, ("cost",))),
                ((1, 3), (7, 4, 4, 4), (1, (0, "forward"))), ((1, 3), (5, 3, 4, 3), (0, (2, "back"))),
                ((1, 3), (6, 4, 4, 5), (0, (4, "back"))), ((), (6, 4, 4, 4), (1, (1, "back"))),
                ((0, 1, 2, 3, 4), (2, 3, 4, 1), None), ((0, 1, 2, 3, 4), (2, 6, 4, 1), (0, (1, "forward")))):
            self.assertEqual(first_unmet(example(), lot, leads), told)

    def test_tuples(self):
        self.assertTrue(is_deep_tuple(first_unmet(example(), [1, 3], [6, 4, 4, 5])))
        self.assertEqual(first_unmet(loop(), (), (5,)), (0, (0, "back")))
        self.assertEqual(first_unmet(loop(), (0,), (5,)), None)
        self.assertEqual(first_unmet(loop(), (0,), [0]), (0, ("cost",)))


class Walks(Raises, unittest.TestCase):
    def test_places(self):
        steps = [(2, "back"), (0, "forward"), (0, "back"), (4, "forward")]
        for walk in (steps, tuple(steps)):
            self.assertEqual(walk_places(example(), 2, walk), (2, 0, 1, 0, 3))
            self.assertEqual(walk_sum(example(), walk), 2 - 2 + 2 - 2)
        self.assertEqual(walk_places(example(), 3, ()), (3,))
        self.assertEqual(walk_places(example(), 3, []), (3,))
        self.assertEqual(walk_places(loop(), 0, [(0, "back"), (0, "forward")]), (0, 0, 0))
        self.assertIsInstance(walk_places(example(), 2, steps), tuple)

    def test_apart(self):
        for start, steps in ((0, [(2, "back")]), (2, [(2, "forward")]), (0, [(0, "forward"), (2, "forward")]),
                             (0, ((0, "forward"), (0, "back"), (1, "forward")))):
            self.assertEqual(walk_places(example(), start, steps), None)

    def test_no_steps(self):
        for wrong in NO_STEPS:
            self.assertEqual(walk_places(example(), 0, [wrong]), None)
            self.assertEqual(walk_places(example(), 0, ((0, "forward"), wrong)), None)
        for wrong in (None, 3, "x", {}, {(0, "forward"): 1}, True):
            self.assertEqual(walk_places(example(), 0, wrong), None)

    def test_start(self):
        for wrong in (-1, 4, *NO_NUMBERS):
            self.refuses(BadPlace, {"place": wrong}, walk_places, example(), wrong, ())
            self.refuses(BadPlace, {"place": wrong}, walk_places, example(), wrong, None)

    def test_sum(self):
        self.assertEqual(walk_sum(example(), ()), 0)
        self.assertEqual(walk_sum(example(), [(2, "back")]), 2)
        self.assertEqual(walk_sum(example(), ((2, "forward"),)), -2)
        self.assertEqual(walk_sum(example(), ((2, "back"), (3, "back"), (0, "forward"), (1, "forward"))), 2 + 4 - 2 - 3)
        self.assertEqual(walk_sum(example(), ((1, "back"),) * 5), 15)
        # The steps need not hang together.
        self.assertEqual(walk_sum(example(), [(3, "back"), (1, "forward")]), 1)


class BadWalks(unittest.TestCase):
    def fault(self, steps, lot=()):
        return walk_fault(example(), lot, BadWalk(steps))

    def test_right(self):
        for steps in (((2, "back"), (3, "back")), ((3, "back"), (2, "back")), ((0, "back"), (1, "back")),
                      ((2, "back"), (3, "back")) * 2, ((3, "back"), (2, "back"), (0, "forward"), (0, "back"))):
            self.assertEqual(self.fault(steps), None)
            self.assertEqual(self.fault(steps, [4]), None)

    def test_step(self):
        for wrong in ([(2, "back"), (3, "back")], None, 3, "back", {}, [], (2, "back")):
            self.assertEqual(self.fault(wrong), "step")
        for wrong in NO_STEPS:
            self.assertEqual(self.fault((wrong,)), "step")
            self.assertEqual(self.fault(((2, "back"), wrong)), "step")

    def test_closed(self):
        for wrong in ((), ((2, "back"),), ((3, "back"), (3, "back")), ((2, "back"), (3, "back"), (2, "back")),
                      ((2, "back"), (1, "forward")), ((4, "back"),)):
            self.assertEqual(self.fault(wrong), "closed")
            self.assertEqual(self.fault(wrong, (2, 3)), "closed")

    def test_sense(self):
        for lot in ((2,), [3], (2, 3), (0, 1, 2, 3, 4)):
            self.assertEqual(self.fault(((2, "back"), (3, "back")), lot), "sense")
        self.assertEqual(self.fault(((2, "forward"), (3, "back")), (0, 3)), "closed")
        self.assertEqual(self.fault(((2, "forward"), (2, "back")), (2,)), "sense")
        self.assertEqual(self.fault(((2, "forward"), (3, "forward")), (2, 3)), "sum")

    def test_sum(self):
        for wrong in (((2, "forward"), (3, "forward")), ((2, "forward"), (2, "back")), ((4, "back"), (4, "forward"))):
            self.assertEqual(self.fault(wrong), "sum")
        free = Chart([0], [(0, 0)])
        self.assertEqual(walk_fault(free, (), BadWalk(((0, "back"),))), "sum")
        self.assertEqual(walk_fault(loop(), (), BadWalk(((0, "back"),))), None)

    def test_long_walk(self):
        self.assertEqual(walk_fault(loop(), (), BadWalk(((0, "back"), (0, "forward")) * 500 + ((0, "back"),))), None)


class Results(unittest.TestCase):
    def test_kept(self):
        self.assertEqual(vars(Even((1,), (("cost",),))), {"leads": (1,), "reasons": (("cost",),)})
        self.assertEqual(vars(BadWalk(((0, "back"),))), {"steps": ((0, "back"),)})
        self.assertNotEqual(Even((1,), (("cost",),)), Even((1,), (("low",),)))
        self.assertNotEqual(BadWalk(()), BadWalk(((0, "back"),)))


if __name__ == "__main__":
    unittest.main()
