"""[6.8]: plain counting and the two-paced code on works, gates of works."""

import unittest

from helping import NO_NUMBERS, NO_SEQUENCES, Raises, WRONG_LIMITS, calling_ring, deep_works, is_deep_tuple
from helping import least_work_meter, mark_charge, sample_works, some_work_meters, sources, trail_along, trails_up_to
from purseahead.charts import Chart
from purseahead.errors import BadLimit, BadSteps, BadWorkGates, NotMetered
from purseahead.paces import Paced
from purseahead.stops import check_limit
from purseahead.workleast import least_even_works
from purseahead.workmeters import WorkMeter, even_works, meter_from_leads
from purseahead.workpaces import WorkParting, find_work_parting, least_work_gates, plain_steps_stop, two_paced_works
from purseahead.works import Works, list_points

LEADS = ((2, 3), (9, 4, 7))
WHOLE = (("call",), ("arrow", 1), ("return",), ("arrow", 0))
BAD_STEPS = ((0, None), (0, (("arrow", 0),)), (1, [("call",), ("arrow", True)]), (4, (*WHOLE, ("return",))))


def sample_meter(first=2, more=0):
    return WorkMeter(sample_works(), first, ((9, 0), (0, 0, 0)), ((0,), (more, 3)))


def cost(works, point):
    return works.charts[point[0]].costs[point[1]]


def plain_visits(trail, limit):
    used = 0
    for number, point in enumerate(trail.visits):
        used += cost(trail.works, point)
        if used > limit:
            return number
    return len(trail.visits)


def plain_paced(meter, leads, trail, limit, gates):
    """The two-paced code of works, word by word, along a trail."""
    works = meter.works
    visits = iter(trail.visits)
    paces, used = [], 0
    purse_tests = slow_tests = 0
    purse, rest, behind = None, limit, None
    for mark in (None, *trail.marks):
        if mark is not None and mark[0] == "end":
            continue
        point = next(visits)
        charge = 0 if mark is None else mark_charge(meter, mark)
        if purse is not None and charge > 0:
            purse_tests += 1
            if purse >= charge:
                purse -= charge
            else:
                # behind is the lead behind the last visit, also if returns have come since.
                purse, rest = None, purse + behind
        if purse is None:
            slow_tests += 1
            if rest >= gates[point[0]][point[1]]:
                purse = rest - leads[point[0]][point[1]]
            elif rest >= cost(works, point):
                rest -= cost(works, point)
            else:
                break
        behind = leads[point[0]][point[1]] - cost(works, point)
        used += cost(works, point)
        paces.append("slow" if purse is None else "fast")
    return Paced(len(paces), limit - used, tuple(paces), purse_tests, slow_tests)


def plain_needs(meter, trails):
    """For each point the most that steps that charge 0 use from it on, over some trails."""
    needs = {point: 0 for point in list_points(meter.works)}
    for trail in trails:
        visits = list(trail.visits)
        used = 0
        # Backwards: what is used from each visit on, as long as all steps behind it charge 0.
        for mark in (*reversed(trail.marks), None):
            if mark is None or mark[0] != "end":
                point = visits.pop()
                used += cost(meter.works, point)
                needs[point] = max(needs[point], used)
            if mark is not None and mark_charge(meter, mark) > 0:
                break
    return needs


def some_gates(source, meter):
    leads = even_works(meter).leads
    needs = least_work_gates(meter)
    yield None
    yield needs
    yield [[source.randint(0, lead) for lead in row] for row in leads]
    yield [[source.randint(need, lead) for need, lead in zip(*rows)] for rows in zip(needs, leads)]


def limits_of(meter, trail):
    limits, used, paid = {0, 1, meter.first, meter.first - 1}, 0, meter.first
    for point in trail.visits:
        used += cost(meter.works, point)
        limits |= {used - 1, used, used + 1}
    for mark in trail.marks:
        paid += mark_charge(meter, mark)
        limits |= {paid - 1, paid}
    return sorted(limit for limit in limits if limit >= 0)


class PlainStops(Raises, unittest.TestCase):
    def test_example(self):
        for limit, places in ((0, 0), (1, 0), (2, 1), (6, 1), (7, 2), (10, 2), (11, 3), (13, 3), (14, 4), (10 ** 15, 4)):
            self.assertEqual(plain_steps_stop(sample_works(), WHOLE, limit), places)
            self.assertEqual(plain_steps_stop(sample_works(), [list(step) for step in WHOLE], limit), places)

    def test_refused(self):
        for index, wrong in BAD_STEPS:
            self.refuses(BadSteps, {"index": index}, plain_steps_stop, sample_works(), wrong, -1)
            self.refuses(BadSteps, {"index": index}, two_paced_works, sample_meter(), wrong, -1)
        for wrong in WRONG_LIMITS:
            self.refuses(BadLimit, {"limit": wrong}, plain_steps_stop, sample_works(), WHOLE, wrong)
            self.refuses(BadLimit, {"limit": wrong}, two_paced_works, sample_meter(), WHOLE, wrong)


class Gates(Raises, unittest.TestCase):
    def works(self):
        return (find_work_parting, lambda meter, gates: two_paced_works(meter, WHOLE, 9, gates=gates))

    def test_refused(self):
        for work in self.works():
            for wrong in [each for each in NO_SEQUENCES if each is not None] + [(), [(2, 3)], [(2, 3), (9, 4, 7), ()]]:
                self.refuses(BadWorkGates, {"procedure": 0, "place": 0}, work, sample_meter(), wrong)
            for wrong in (*NO_SEQUENCES, (), (2,), (2, 3, 4, 5)):
                self.refuses(BadWorkGates, {"procedure": 0, "place": 0}, work, sample_meter(), [wrong, wrong])
                self.refuses(BadWorkGates, {"procedure": 1, "place": 0}, work, sample_meter(), [(2, 3), wrong])
            for number, row in enumerate(LEADS):
                for place, lead in enumerate(row):
                    for wrong in (-1, lead + 1, *NO_NUMBERS):
                        gates = [[0, 0], [0, 0, 0]]
                        gates[number][place:] = [wrong] * (len(row) - place)
                        told = {"procedure": number, "place": place}
                        self.refuses(BadWorkGates, told, work, sample_meter(), gates)

    def test_order(self):
        for work in (lambda meter: two_paced_works(meter, None, -1, gates=()), lambda meter: find_work_parting(meter, ()),
                     least_work_gates):
            self.refuses(NotMetered, {"what": "even"}, work, sample_meter(2, 1))
            self.refuses(NotMetered, {"what": "covered"}, work, sample_meter(1))
            # Neither even nor covered: even comes first.
            self.refuses(NotMetered, {"what": "even"}, work, sample_meter(1, 1))
        asked = lambda steps, limit: two_paced_works(sample_meter(), steps, limit, gates=7)
        self.refuses(BadSteps, {"index": 0}, asked, (("return",),), -1)
        self.refuses(BadLimit, {"limit": True}, asked, (), True)
        self.refuses(BadWorkGates, {"procedure": 0, "place": 0}, asked, (), 5)


class TwoPacedWorks(unittest.TestCase):
    def test_example(self):
        meter = sample_meter()
        self.assertEqual(two_paced_works(meter, WHOLE, 14), Paced(4, 0, ("fast",) * 4, 2, 1))
        self.assertEqual(two_paced_works(meter, list(WHOLE), 13), Paced(3, 2, ("fast", "fast", "slow"), 2, 3))
        self.assertEqual(two_paced_works(meter, WHOLE[:3], 11, gates=[list(row) for row in LEADS]),
                         Paced(3, 0, ("fast", "fast", "slow"), 2, 2))
        self.assertEqual(two_paced_works(meter, WHOLE, 8), Paced(2, 1, ("fast", "slow"), 1, 3))
        self.assertEqual(two_paced_works(meter, (), 1), Paced(0, 1, (), 0, 1))

    def test_behind_a_return(self):
        # The arrow behind the return charges: then the lead behind the callee's end is what is left besides the purse.
        meter = meter_from_leads(sample_works(), ((8, 5), (6, 3, 6)))
        self.assertEqual(meter.arrows, ((3,), (2, 5)))
        told = [two_paced_works(meter, WHOLE, limit) for limit in (15, 16, 13)]
        self.assertEqual(told[0], Paced(4, 1, ("fast", "fast", "fast", "slow"), 2, 2))
        self.assertEqual(told[1], Paced(4, 2, ("fast",) * 4, 2, 1))
        self.assertEqual(told[2], Paced(3, 2, ("fast", "fast", "fast"), 2, 2))

    def test_all_runs(self):
        below = 0
        for source, meter in zip(sources(40), some_work_meters(18, most_places=2, most_arrows=3)):
            leads = even_works(meter).leads
            trails = trails_up_to(meter.works, 5)
            for gates in some_gates(source, meter):
                fitting = leads if gates is None else gates
                for trail in trails:
                    for limit in limits_of(meter, trail):
                        found = two_paced_works(meter, trail.steps, limit, gates=gates)
                        self.assertEqual(found, plain_paced(meter, leads, trail, limit, fitting))
                        below += found.unused < 0
        self.assertGreater(below, 50)

    def test_right_gates_stop_as_plain_counting(self):
        for meter in some_work_meters(18, most_places=3, most_arrows=4):
            needs = least_work_gates(meter)
            # What a run does, its beginnings do, too: only the longest runs are gone along.
            longest = [trail for trail in trails_up_to(meter.works, 6) if not trail.goings() or len(trail.steps) == 6]
            for trail in longest[:100]:
                for limit in limits_of(meter, trail):
                    told = plain_visits(trail, limit)
                    self.assertEqual(plain_steps_stop(meter.works, trail.steps, limit), told)
                    self.assertEqual(two_paced_works(meter, trail.steps, limit).places, told)
                    self.assertEqual(two_paced_works(meter, trail.steps, limit, gates=needs).places, told)

    def test_longest(self):
        works = Works([Chart([1, 2, 0], [(0, 1), (0, 2), (1, 2)])], [(None, 0, None)])
        meter = WorkMeter(works, 1, [(0, 1, 0)], [(2, 0, 0)])
        deep = [("arrow", 0), ("call",)] * 2500 + [("arrow", 1)] + [("return",), ("arrow", 2)] * 2499 + [("return",)]
        self.assertEqual(len(deep), 10000)
        found = two_paced_works(meter, deep, 10 ** 15)
        # 2500 arrows 0, as many calls, the arrow 1 and 2499 arrows 2 visit places.
        self.assertEqual(found.places, 1 + 2500 + 2500 + 1 + 2499)
        self.assertEqual((found.unused, found.slow_tests), (10 ** 15 - 1 - 3 * 2500, 1))
        for limit in (0, 1, 700, 7500, 7501):
            self.assertEqual(two_paced_works(meter, deep, limit).places, plain_steps_stop(works, deep, limit))


class Partings(unittest.TestCase):
    def check(self, meter, gates, found):
        self.assertIsInstance(found, WorkParting)
        self.assertTrue(is_deep_tuple(found.steps))
        self.assertLessEqual(len(found.steps), 10000)
        trail = trail_along(meter.works, found.steps)
        check_limit(found.limit)
        self.assertIn(found.point, trail.visits)
        paced = plain_paced(meter, even_works(meter).leads, trail, found.limit, gates)
        self.assertGreater(paced.places, plain_visits(trail, found.limit))

    def lowered(self, rows, point):
        rows = [list(row) for row in rows]
        rows[point[0]][point[1]] -= 1
        return rows

    def test_example(self):
        self.assertEqual(least_work_gates(sample_meter()), ((2, 3), (9, 4, 7)))
        # Going over the call is free, but not the arrow within it that leads to place 2.
        half = meter_from_leads(sample_works(), ((11, 3), (9, 4, 7)))
        self.assertEqual(half.charged_marks, (("arrow", 1, 1),))
        self.assertEqual(least_work_gates(half), ((11, 3), (9, 4, 7)))
        self.assertEqual(least_work_gates(meter_from_leads(sample_works(), ((14, 6), (12, 7, 10)))),
                         ((11, 3), (9, 4, 7)))
        self.assertEqual(find_work_parting(sample_meter(), None), None)
        self.assertEqual(find_work_parting(sample_meter(), [[2, 3], [9, 4, 7]]), None)
        self.assertTrue(is_deep_tuple(least_work_gates(sample_meter())))

    def test_needs(self):
        for meter in some_work_meters(60, most_places=3, most_arrows=4):
            needs = least_work_gates(meter)
            leads = even_works(meter).leads
            told = plain_needs(meter, trails_up_to(meter.works, 7))
            self.assertEqual(find_work_parting(meter, needs), None)
            for point in list_points(meter.works):
                need = needs[point[0]][point[1]]
                # Some runs tell that it is no less; one with a gate below it tells that it is no more.
                self.assertGreaterEqual(need, told[point])
                self.assertLessEqual(need, leads[point[0]][point[1]])
                if need > 0:
                    gates = self.lowered(needs, point)
                    found = find_work_parting(meter, gates)
                    self.assertEqual(found.point, point)
                    self.check(meter, gates, found)

    def test_callers(self):
        # Procedure 1 is called at two places; only behind the second one something dear is used.
        works = Works([Chart([0, 0, 5], [(0, 1), (1, 2)]), Chart([1], [])], [(1, 1, None), (None,)])
        meter = meter_from_leads(works, ((6, 6, 5), (6,)))
        self.assertEqual(meter.charged_marks, (("arrow", 0, 0),))
        self.assertEqual(least_work_gates(meter), ((1, 6, 5), (6,)))
        gates = [[1, 6, 5], [5]]
        found = find_work_parting(meter, gates)
        self.assertEqual(found.point, (1, 0))
        self.check(meter, gates, found)

    def test_returns_go_to_the_very_call(self):
        # Over the call of place 1 one comes back to place 1 alone, though procedure 1 is called at place 2, too.
        works = Works([Chart([0, 0, 0, 9, 2], [(0, 1), (0, 2), (1, 4), (2, 3)]), Chart([1], [])],
                      [(None, 1, 1, None, None), (None,)])
        meter = WorkMeter(works, 3, [(0, 0, 0, 0, 0), (0,)], [(0, 0, 0, 7), ()])
        self.assertEqual(even_works(meter).leads, ((3, 3, 3, 9, 2), (3,)))
        self.assertEqual(least_work_gates(meter), ((3, 3, 1, 9, 2), (3,)))
        for gates in (((3, 2, 1, 9, 2), (3,)), ((3, 3, 0, 9, 2), (3,)), ((0, 0, 0, 0, 0), (0,))):
            self.check(meter, gates, find_work_parting(meter, gates))
        # The same if there are steps within the callee.
        works = Works([works.charts[0], Chart([1, 0, 0], [(0, 1), (1, 2)])], [works.calls[0], (None,) * 3])
        meter = WorkMeter(works, 3, [(0,) * 5, (0,) * 3], [(0, 0, 0, 7), (0, 0)])
        self.assertEqual(least_work_gates(meter), ((3, 3, 1, 9, 2), (3, 2, 2)))
        for gates in (((3, 2, 1, 9, 2), (3, 2, 2)), ((3, 3, 0, 9, 2), (3, 2, 2)), ((3, 3, 1, 9, 2), (3, 1, 2))):
            self.check(meter, gates, find_work_parting(meter, gates))

    def test_charges_within_the_callee(self):
        # The call is free, but the arrow or the call within the callee is not: nothing behind it is needed.
        one = Works([Chart([0, 8], [(0, 1)]), Chart([1, 0], [(0, 1)])], [(1, None), (None, None)])
        meter = WorkMeter(one, 11, [(0, 0), (0, 0)], [(0,), (5,)])
        self.assertEqual(least_work_gates(meter), ((1, 8), (1, 8)))
        two = Works([Chart([0, 8], [(0, 1)]), Chart([1, 0], [(0, 1)]), Chart([0], [])], [(1, None), (2, None), (None,)])
        meter = WorkMeter(two, 11, [(0, 0), (5, 0), (0,)], [(0,), (0,), ()])
        self.assertEqual(least_work_gates(meter), ((1, 8), (1, 8), (8,)))
        free = WorkMeter(two, 11, [(0, 0), (0, 0), (0,)], [(0,), (0,), ()])
        self.assertEqual(least_work_gates(free), ((9, 8), (9, 8), (8,)))
        # Arrow 0 of the callee charges, arrow 0 of the caller does not, and the other way about.
        back = Works([Chart([0, 8, 1], [(0, 1), (1, 2)]), Chart([1, 0, 0], [(0, 1), (1, 2)])],
                     [(1, None, None), (None, None, None)])
        meter = WorkMeter(back, 20, [(0, 0, 0), (0, 0, 0)], [(0, 3), (0, 2)])
        self.assertEqual(least_work_gates(meter), ((1, 8, 1), (1, 0, 8)))
        meter = WorkMeter(back, 20, [(0, 0, 0), (0, 0, 0)], [(0, 0), (0, 0)])
        self.assertEqual(least_work_gates(meter), ((10, 9, 1), (10, 9, 9)))

    def test_all_runs(self):
        wrong = 0
        for source, meter in zip(sources(40), some_work_meters(18, most_places=2, most_arrows=3)):
            trails = trails_up_to(meter.works, 6)
            needs = least_work_gates(meter)
            for gates in list(some_gates(source, meter))[2:]:
                low = [point for point in list_points(meter.works)
                       if gates[point[0]][point[1]] < needs[point[0]][point[1]]]
                found = find_work_parting(meter, gates)
                if low:
                    wrong += 1
                    self.assertEqual(found.point, low[0])
                    self.check(meter, gates, found)
                else:
                    self.assertEqual(found, None)
                    for trail in trails[::2]:
                        for limit in limits_of(meter, trail):
                            self.assertEqual(two_paced_works(meter, trail.steps, limit, gates=gates).places,
                                             plain_visits(trail, limit))
        self.assertGreater(wrong, 10)

    def test_deep(self):
        # All charges are in the first one, so everything behind any place is needed there.
        works = deep_works()
        found = least_even_works(works, [("call", 0, 0), ("call", 0, 1), ("call", 0, 2), ("call", 1, 0), ("call", 1, 1),
                                         ("call", 2, 0), ("call", 2, 1)])
        meter = meter_from_leads(works, found.leads)
        for gates in (least_work_gates(meter), even_works(meter).leads):
            for point in list_points(works):
                lowered = self.lowered(least_work_gates(meter), point)
                parting = find_work_parting(meter, lowered)
                self.assertEqual(parting.point, point)
                self.check(meter, lowered, parting)
            self.assertEqual(find_work_parting(meter, gates), None)

    def test_ring_of_calls(self):
        works = calling_ring()
        for source in sources(5):
            meter = least_work_meter(source, works)
            needs = least_work_gates(meter)
            told = plain_needs(meter, trails_up_to(works, 12))
            self.assertEqual(needs, tuple(tuple(told[(number, place)] for place in range(len(row)))
                                          for number, row in enumerate(needs)))
            for point in list_points(works):
                if needs[point[0]][point[1]] > 0:
                    gates = self.lowered(needs, point)
                    self.check(meter, gates, find_work_parting(meter, gates))


if __name__ == "__main__":
    unittest.main()
