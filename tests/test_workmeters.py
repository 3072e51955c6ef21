"""[6.5] to [6.7] and [6.13]: meters of works, even ones, meters from leads."""

import unittest

from helping import NO_NUMBERS, NO_SEQUENCES, Raises, calling_ring, deep_works, is_deep_tuple, line, mark_charge
from helping import sample_works, some_work_meters, some_works, sources, trail_along, trail_leads, trails_up_to
from purseahead.charts import Chart
from purseahead.errors import BadSteps, BadWorkLeads, BadWorkMeter, NotEvenWorks
from purseahead.workmeters import UnevenWorks, WorkLeads, WorkMeter, even_works, is_metered_works, leads_of_steps
from purseahead.workmeters import meter_from_leads
from purseahead.works import Works, list_marks, list_points

CALLS = ((9, 0), (0, 0, 0))
ARROWS = ((0,), (0, 3))
WHOLE = (("call",), ("arrow", 1), ("return",), ("arrow", 0))
MOST = 10 ** 12


def sample_meter(first=2, calls=CALLS, arrows=ARROWS):
    return WorkMeter(sample_works(), first, calls, arrows)


def told(what, procedure=0, index=0):
    return {"what": what, "procedure": procedure, "index": index}


def any_meter(source, works, most=3):
    """A meter with charges drawn freely."""
    calls = [[0 if called is None else source.randint(0, most) for called in row] for row in works.calls]
    arrows = [[source.randint(0, most) for _ in chart.arrows] for chart in works.charts]
    return WorkMeter(works, source.randint(0, most), calls, arrows)


def changed_meter(source, meter):
    """A meter with one more charge at one mark."""
    marks = [mark for mark in list_marks(meter.works) if mark[0] != "end"]
    if not marks:
        return meter
    kind, number, item = source.choice(marks)
    rows = [list(row) for row in (meter.arrows if kind == "arrow" else meter.calls)]
    rows[number][item] += 1
    if kind == "arrow":
        return WorkMeter(meter.works, meter.first, meter.calls, rows)
    return WorkMeter(meter.works, meter.first, rows, meter.arrows)


class Building(Raises, unittest.TestCase):
    def test_kept(self):
        meter = sample_meter(calls=[[9, 0], [0] * 3], arrows=[[0], [0, 3]])
        self.assertEqual(vars(meter), {"works": sample_works(), "first": 2, "calls": CALLS, "arrows": ARROWS})
        self.assertTrue(is_deep_tuple(meter.calls) and is_deep_tuple(meter.arrows))
        self.assertEqual(meter, sample_meter())
        self.assertEqual(meter.charged_marks, (("arrow", 1, 1), ("call", 0, 0)))
        self.assertTrue(is_deep_tuple(meter.charged_marks))
        self.assertEqual(sample_meter(arrows=((1,), (2, 3))).charged_marks, list_marks(sample_works())[:4])
        self.assertEqual(sample_meter(0, ((0, 0), (0, 0, 0)), ((0,), (0, 0))).charged_marks, ())
        self.assertEqual(sample_meter(MOST, ((MOST, 0), (0, 0, 0)), ((MOST,), (MOST, MOST))).first, MOST)

    def test_equal(self):
        meter = sample_meter()
        other = Works([sample_works().charts[0], Chart([5, 1, 3], [(0, 1), (0, 2)])], sample_works().calls)
        for one in (sample_meter(3), sample_meter(calls=((8, 0), (0, 0, 0))), sample_meter(arrows=((0,), (1, 3))),
                    WorkMeter(other, 2, CALLS, ARROWS), None, 2, (), vars(meter), sample_works()):
            self.assertFalse(meter == one)

    def bad(self, what, procedure, index, first, calls, arrows):
        self.refuses(BadWorkMeter, told(what, procedure, index), WorkMeter, sample_works(), first, calls, arrows)

    def test_first(self):
        for wrong in (-1, MOST + 1, *NO_NUMBERS):
            self.bad("first", 0, 0, wrong, None, None)

    def test_calls(self):
        for wrong in (*NO_SEQUENCES, (), [(9, 0)], [(9, 0), (0, 0, 0), ()]):
            self.bad("calls", 0, 0, 2, wrong, None)
        for wrong in (*NO_SEQUENCES, (), (9,), (9, 0, 0, 0)):
            self.bad("callrow", 0, 0, 2, [wrong, wrong], None)
            self.bad("callrow", 1, 0, 2, [(9, 0), wrong], None)
        for wrong in (-1, MOST + 1, *NO_NUMBERS):
            self.bad("call", 0, 0, 2, [(wrong, wrong), None], None)
            self.bad("call", 0, 1, 2, [(9, wrong), None], None)
            self.bad("call", 1, 1, 2, [(9, 0), [0, wrong, wrong]], None)
        # A charge where nothing is called, but also no number there.
        for place in range(3):
            row = [0, 0, 0]
            row[place] = 1
            self.bad("call", 1, place, 2, [(9, 0), row], None)
        self.bad("call", 0, 1, 2, [(9, 1), None], None)

    def test_arrows(self):
        for wrong in (*NO_SEQUENCES, (), [(0,)], [(0,), (0, 3), ()]):
            self.bad("arrows", 0, 0, 2, CALLS, wrong)
        for wrong in (*NO_SEQUENCES, (), (0, 0, 0)):
            self.bad("arrowrow", 0, 0, 2, CALLS, [wrong, wrong])
            self.bad("arrowrow", 1, 0, 2, CALLS, [(0,), wrong])
        for wrong in (-1, MOST + 1, *NO_NUMBERS):
            self.bad("arrow", 0, 0, 2, CALLS, [(wrong,), None])
            self.bad("arrow", 1, 1, 2, CALLS, [(0,), [0, wrong]])

    def test_arguments_stay(self):
        calls, arrows = [[9, 0], [0] * 3], [[0], [0, 3]]
        meter = sample_meter(2, calls, arrows)
        calls[0][0] = 8
        arrows[1][1] = 8
        self.assertEqual(meter, sample_meter())


class Leads(Raises, unittest.TestCase):
    def test_example(self):
        meter = sample_meter()
        self.assertEqual([meter.charged(WHOLE[:many]) for many in range(5)], [2, 11, 14, 14, 14])
        self.assertEqual([meter.lead_behind(list(WHOLE[:many])) for many in range(5)], [0, 4, 3, 3, 0])
        self.assertEqual(leads_of_steps(meter, WHOLE), (2, 9, 7, 3))
        self.assertEqual(leads_of_steps(meter, [list(step) for step in WHOLE[:3]]), (2, 9, 7))
        self.assertEqual(leads_of_steps(meter, ()), (2,))

    def test_all_runs(self):
        for source, works in zip(sources(32), some_works(30)):
            meter = any_meter(source, works)
            for trail in trails_up_to(works, 5):
                leads = trail_leads(meter, trail)
                charged = meter.first + sum(mark_charge(meter, mark) for mark in trail.marks)
                used = sum(works.charts[number].costs[place] for number, place in trail.visits)
                self.assertEqual(leads_of_steps(meter, trail.steps), tuple(leads))
                self.assertEqual(meter.charged(trail.steps), charged)
                self.assertEqual(meter.lead_behind(trail.steps), charged - used)

    def test_longest(self):
        spin = Works([Chart([1], [(0, 0)])], [(None,)])
        meter = WorkMeter(spin, 5, [(0,)], [(3,)])
        long = [("arrow", 0)] * 10000
        self.assertEqual(meter.charged(long), 30005)
        self.assertEqual(meter.lead_behind(long), 30005 - 10001)
        self.assertEqual(leads_of_steps(meter, long)[-3:], (20001, 20003, 20005))

    def test_refused(self):
        meter = sample_meter()
        for work in (meter.charged, meter.lead_behind, lambda steps: leads_of_steps(meter, steps)):
            for index, wrong in ((0, None), (0, (("arrow", 0),)), (1, [("call",), ("arrow", True)]),
                                 (0, [("call",)] * 10001), (4, (*WHOLE, ("return",))), (1, [["call"], ["call"]])):
                self.refuses(BadSteps, {"index": index}, work, wrong)


class EvenWorksMeters(unittest.TestCase):
    def check(self, meter, found):
        """Judge what even_works returns by a way of its own; return whether the meter is even."""
        works = meter.works
        if isinstance(found, WorkLeads):
            self.assertTrue(is_deep_tuple(found.leads))
            self.assertEqual([len(row) for row in found.leads], [len(chart) for chart in works.charts])
            return True
        self.assertIsInstance(found, UnevenWorks)
        ends = [trail_along(works, steps) for steps in (found.one, found.other)]
        self.assertEqual([trail.point for trail in ends], [found.point] * 2)
        self.assertFalse(ends[0].returned or ends[1].returned)
        self.assertNotEqual(trail_leads(meter, ends[0])[-1], trail_leads(meter, ends[1])[-1])
        self.assertTrue(is_deep_tuple(found.one) and is_deep_tuple(found.other))
        return False

    def plain_leads(self, meter, length):
        """For each point all leads ahead of it over runs of up to that many steps."""
        leads = {point: set() for point in list_points(meter.works)}
        for trail in trails_up_to(meter.works, length):
            if not trail.returned:
                leads[trail.point].add(trail_leads(meter, trail)[-1])
        return leads

    def test_example(self):
        self.assertEqual(even_works(sample_meter()), WorkLeads(((2, 3), (9, 4, 7))))
        self.assertTrue(is_metered_works(sample_meter()))
        for meter in (sample_meter(calls=((8, 0), (0, 0, 0))), sample_meter(arrows=((0,), (0, 3))), sample_meter(1)):
            self.check(meter, even_works(meter))
        # Even, but not covered.
        self.assertEqual(even_works(sample_meter(1)), WorkLeads(((1, 2), (8, 3, 6))))
        self.assertIs(is_metered_works(sample_meter(1)), False)
        # The two ends are left with unlike leads: the runs part behind the return alone.
        uneven = sample_meter(arrows=((0,), (0, 2)))
        found = even_works(uneven)
        self.assertEqual(found.point, (0, 1))
        self.assertFalse(self.check(uneven, found))
        self.assertIs(is_metered_works(uneven), False)

    def test_recursion(self):
        # Each call pays for what the callee uses, so that nothing is left or missing behind it.
        works = Works([Chart([1, 2, 0], [(0, 1), (0, 2), (1, 2)])], [(None, 0, None)])
        meter = WorkMeter(works, 1, [(0, 1, 0)], [(2, 0, 0)])
        self.assertEqual(even_works(meter), WorkLeads(((1, 2, 0),)))
        self.assertTrue(is_metered_works(meter))
        less = WorkMeter(works, 1, [(0, 0, 0)], [(2, 0, 0)])
        self.assertFalse(self.check(less, even_works(less)))
        rising = WorkMeter(works, 1, [(0, 1, 0)], [(2, 0, 1)])
        self.assertFalse(self.check(rising, even_works(rising)))

    def test_all_runs(self):
        even = uneven = 0
        for source, works in zip(sources(82), some_works(80)):
            for meter in (any_meter(source, works, 1), any_meter(source, works, 3)):
                found = even_works(meter)
                leads = self.plain_leads(meter, 7)
                if self.check(meter, found):
                    even += 1
                    for number, place in list_points(works):
                        self.assertLessEqual(leads[(number, place)], {found.leads[number][place]})
                else:
                    uneven += 1
                covered = all(found.leads[number][place] >= works.charts[number].costs[place]
                              for number, place in list_points(works)) if isinstance(found, WorkLeads) else False
                self.assertIs(is_metered_works(meter), covered)
        self.assertGreater(uneven, 40)

    def test_even_ones(self):
        for source, meter in zip(sources(120), some_work_meters(40)):
            found = even_works(meter)
            self.assertTrue(self.check(meter, found))
            self.assertTrue(is_metered_works(meter))
            for point, leads in self.plain_leads(meter, 6).items():
                self.assertLessEqual(leads, {found.leads[point[0]][point[1]]})
            changed = changed_meter(source, meter)
            if max(len(leads) for leads in self.plain_leads(changed, 7).values()) > 1:
                self.assertFalse(self.check(changed, even_works(changed)))
            else:
                self.check(changed, even_works(changed))

    def test_largest(self):
        # Runs to the last places have many steps: calls of calls of calls lie ahead of them.
        works = deep_works()
        meter = meter_from_leads(works, [[300] * len(chart) for chart in works.charts])
        self.assertEqual(even_works(meter), WorkLeads(((300,) * 4, (300,) * 3, (300,) * 3, (300,) * 3)))
        rows = [list(row) for row in meter.arrows]
        rows[0][2] += 1
        last = WorkMeter(works, meter.first, meter.calls, rows)
        self.assertEqual(even_works(last).leads[0], (300, 300, 300, 301))
        rows[3][1] += 1
        spoiled = WorkMeter(works, meter.first, meter.calls, rows)
        self.assertFalse(self.check(spoiled, even_works(spoiled)))


class FromLeads(Raises, unittest.TestCase):
    def test_example(self):
        for leads in (((2, 3), (9, 4, 7)), [[2, 3], [9, 4, 7]]):
            self.assertEqual(meter_from_leads(sample_works(), leads), sample_meter())
        found = meter_from_leads(sample_works(), ((10 ** 11, 10 ** 11), (10 ** 11, 10 ** 11 - 3, 10 ** 11)))
        self.assertEqual(found.first, 10 ** 11)
        self.assertEqual(found.charged_marks, (("arrow", 0, 0), ("arrow", 1, 0), ("arrow", 1, 1), ("call", 0, 0)))
        # Not covered, but even.
        self.assertEqual(even_works(meter_from_leads(sample_works(), ((2, 0), (0, 1, 4)))).leads, ((2, 0), (0, 1, 4)))

    def test_all_meters(self):
        for meter in some_work_meters(40):
            leads = even_works(meter).leads
            self.assertEqual(meter_from_leads(meter.works, leads), meter)

    def bad(self, procedure, place, leads):
        self.refuses(BadWorkLeads, {"procedure": procedure, "place": place}, meter_from_leads, sample_works(), leads)

    def test_bad_leads(self):
        for wrong in (*NO_SEQUENCES, (), [(2, 3)], [(2, 3), (9, 4, 7), ()]):
            self.bad(0, 0, wrong)
        for wrong in (*NO_SEQUENCES, (), (2,), (2, 3, 4, 5)):
            self.bad(0, 0, [wrong, wrong])
            self.bad(1, 0, [(2, 3), wrong])
        for wrong in (-1, 10 ** 11 + 1, *NO_NUMBERS):
            self.bad(0, 0, [(wrong, wrong), None])
            self.bad(0, 1, [(2, wrong), None])
            self.bad(1, 2, [(2, 3), [9, 4, wrong]])

    def uneven(self, mark, leads, works=None):
        self.refuses(NotEvenWorks, {"mark": mark}, meter_from_leads, works or sample_works(), leads)

    def test_not_even(self):
        self.uneven(("end", 1, 2), [(2, 3), (9, 4, 6)])
        self.uneven(("end", 1, 2), [(2, 3), (9, 0, 0)])
        # An end is told ahead of arrows, arrows ahead of calls.
        self.uneven(("end", 1, 2), [(20, 0), (30, 4, 6)])
        self.uneven(("arrow", 0, 0), [(20, 2), (30, 4, 7)])
        self.uneven(("arrow", 1, 0), [(20, 3), (30, 4, 7)])
        self.uneven(("arrow", 1, 1), [(20, 4), (13, 8, 7)], Works([sample_works().charts[0], Chart(
            [5, 4, 3], [(0, 1), (0, 2)])], sample_works().calls))
        self.uneven(("call", 0, 0), [(20, 3), (9, 4, 7)])
        self.uneven(("call", 0, 0), [(12, 3), (9, 4, 7)])
        self.assertEqual(meter_from_leads(sample_works(), [(11, 3), (9, 4, 7)]).calls, ((0, 0), (0, 0, 0)))
        self.uneven(("arrow", 0, 0), [(5, 1)], Works([line(2)], [(None, None)]))

    def test_only_the_first_end_counts(self):
        works = Works([line(2), Chart([0] * 4, [(0, 1), (0, 2), (0, 3)])], [(1, None), (None,) * 4])
        self.uneven(("end", 1, 2), [(9, 9), (9, 1, 2, 3)], works)
        self.uneven(("end", 1, 3), [(9, 9), (9, 1, 1, 3)], works)
        # Procedure 0 is not called, so that its ends may differ.
        free = Works([Chart([1, 1, 1], [(0, 1), (0, 2)])], [(None,) * 3])
        self.assertEqual(meter_from_leads(free, [(5, 6, 9)]).arrows, ((2, 5),))

    def test_recursive(self):
        leads = [[9, 9, 9, 9], [9, 9, 9]]
        meter = meter_from_leads(calling_ring(), leads)
        self.assertEqual(even_works(meter).leads, ((9, 9, 9, 9), (9, 9, 9)))
        self.assertEqual(leads, [[9, 9, 9, 9], [9, 9, 9]])


if __name__ == "__main__":
    unittest.main()
