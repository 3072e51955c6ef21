"""[6.11], [6.12] and [6.13]: flat and spread works."""

import unittest

from helping import NO_SEQUENCES, Raises, calling_ring, deep_works, is_deep_tuple, least_work_meter, line, loop
from helping import mark_charge, plain_runs, sample_works, some_work_meters, some_works, sources, trail_leads, trails
from helping import trails_up_to
from purseahead.charts import Chart
from purseahead.covering import even_leads
from purseahead.drifts import find_fall, find_rise
from purseahead.errors import BadRun, BadSteps, BadWorkLot, Drifting, RingOfCalls, TooMany
from purseahead.evenness import BadWalk
from purseahead.flatworks import Flat, Spread, flat_lot, flat_meter, flat_run, flatten_works, spread_meter, spread_run
from purseahead.flatworks import spread_works, steps_of_run, work_highs, work_lows
from purseahead.leastmeters import least_even
from purseahead.meters import Meter
from purseahead.workleast import EvenWorks, least_even_works
from purseahead.workmeters import WorkLeads, WorkMeter, even_works, meter_from_leads
from purseahead.works import Works, find_call_ring, list_called, list_marks, list_points

WHOLE = (("call",), ("arrow", 1), ("return",), ("arrow", 0))
LOT = (("arrow", 1, 1), ("call", 0, 0))


def sample_meter(more=0):
    return WorkMeter(sample_works(), 2, ((9, 0), (0, 0, 0)), ((0,), (more, 3)))


def twice():
    """Procedure 1 is called at two places of procedure 0, and calls procedure 2."""
    return Works([Chart([1, 2, 3], [(0, 1), (1, 2), (1, 1)]), Chart([2, 0], [(0, 1)]), Chart([4], [])],
                 [(1, 1, None), (2, None), (None,)])


def charts_apart(count):
    """Works of a row of that many places whose first place calls a procedure of one place."""
    return Works([line(count), Chart([1], [])], [(1,) + (None,) * (count - 1), (None,)])


def any_meter(source, works, most=3):
    calls = [[0 if called is None else source.randint(0, most) for called in row] for row in works.calls]
    arrows = [[source.randint(0, most) for _ in chart.arrows] for chart in works.charts]
    return WorkMeter(works, source.randint(0, most), calls, arrows)


class FlatWorks(Raises, unittest.TestCase):
    def test_example(self):
        found = flatten_works(sample_works())
        marks = (("arrow", 0, 0), ("arrow", 1, 0), ("arrow", 1, 1), ("call", 0, 0), ("end", 1, 1), ("end", 1, 2))
        spots = ((0, 0), (0, 1), (1, 0), (1, 1), (1, 2), (1, None))
        chart = Chart((2, 3, 5, 1, 4, 0), ((5, 1), (2, 3), (2, 4), (0, 2), (3, 5), (4, 5)))
        self.assertEqual(found, Flat(chart, spots, marks))
        self.assertTrue(is_deep_tuple(found.spots) and is_deep_tuple(found.marks))

    def test_form(self):
        for works in some_works(40, most_places=4, most_arrows=5):
            found = flatten_works(works)
            self.assertEqual(found.marks, list_marks(works))
            self.assertEqual(found.spots, (*list_points(works), *[(number, None) for number in list_called(works)]))
            for (kind, number, item), (tail, head) in zip(found.marks, found.chart.arrows):
                tail, head = found.spots[tail], found.spots[head]
                if kind == "arrow":
                    one, two = works.charts[number].arrows[item]
                    called = works.calls[number][one]
                    self.assertEqual((tail, head), ((number, one) if called is None else (called, None), (number, two)))
                elif kind == "call":
                    self.assertEqual((tail, head), ((number, item), (works.calls[number][item], 0)))
                else:
                    self.assertEqual((tail, head), ((number, item), (number, None)))
            for spot, cost in zip(found.spots, found.chart.costs):
                self.assertEqual(cost, 0 if spot[1] is None else works.charts[spot[0]].costs[spot[1]])

    def test_runs(self):
        self.assertEqual(flat_run(sample_works(), [list(step) for step in WHOLE]), (3, 2, 5, 0))
        self.assertEqual(steps_of_run(sample_works(), [3, 2, 5, 0]), WHOLE)
        self.assertEqual(steps_of_run(sample_works(), ()), ())
        for works in some_works(30):
            flat = flatten_works(works)
            for trail in trails_up_to(works, 5):
                run = flat_run(works, trail.steps)
                self.assertEqual(run, tuple(flat.marks.index(mark) for mark in trail.marks))
                self.assertEqual(steps_of_run(works, run), trail.steps)
                self.assertTrue(is_deep_tuple(run) and is_deep_tuple(steps_of_run(works, list(run))))

    def test_not_well_nested(self):
        # Called at place 0, but left behind the call of place 1.
        marks = list_marks(twice())
        run = [marks.index(mark) for mark in (("call", 0, 0), ("call", 1, 0), ("end", 2, 0), ("arrow", 1, 0),
                                              ("end", 1, 1), ("arrow", 0, 0))]
        self.assertEqual(steps_of_run(twice(), run), (("call",), ("call",), ("return",), ("arrow", 0), ("return",),
                                                      ("arrow", 0)))
        self.assertEqual(steps_of_run(twice(), run[:-1]), (("call",), ("call",), ("return",), ("arrow", 0), ("return",)))
        for arrow in (1, 2):
            self.assertEqual(steps_of_run(twice(), [*run[:-1], marks.index(("arrow", 0, arrow))]), None)
        # A return without a call of its own.
        works = Works([Chart([1, 2, 0], [(0, 1), (0, 2), (1, 2)])], [(None, 0, None)])
        marks = list_marks(works)
        self.assertEqual(steps_of_run(works, [marks.index(("arrow", 0, 1)), marks.index(("end", 0, 2))]), None)

    def test_all_flat_runs(self):
        apart = 0
        for works in [twice(), *some_works(40)]:
            flat = flatten_works(works)
            for length in range(6):
                nested = {trail.steps: trail for trail in trails(works, length)}
                found = [steps_of_run(works, run) for run in plain_runs(flat.chart, length)]
                apart += found.count(None)
                told = [steps for steps in found if steps is not None]
                self.assertEqual(sorted(told), sorted(nested))
        self.assertGreater(apart, 20)

    def test_lots_and_meters(self):
        for lot in (LOT, [list(mark) for mark in LOT]):
            self.assertEqual(flat_lot(sample_works(), lot), (2, 3))
        self.assertEqual(flat_lot(sample_works(), ()), ())
        chart = flatten_works(sample_works()).chart
        self.assertEqual(flat_meter(sample_meter()), Meter(chart, 2, (0, 0, 3, 9, 0, 0)))
        self.assertEqual(even_leads(flat_meter(sample_meter())), (2, 3, 9, 4, 7, 3))
        for source, works in zip(sources(22), some_works(20)):
            meter = any_meter(source, works)
            told = [mark_charge(meter, mark) for mark in list_marks(works)]
            self.assertEqual(flat_meter(meter), Meter(flatten_works(works).chart, meter.first, told))

    def test_even_alike(self):
        seen = {True: 0, False: 0}
        for source, works in zip(sources(52), some_works(50)):
            for meter in (any_meter(source, works, 1), least_work_meter(source, works)):
                found = even_works(meter)
                leads = even_leads(flat_meter(meter))
                seen[isinstance(found, WorkLeads)] += 1
                self.assertEqual(isinstance(found, WorkLeads), isinstance(leads, tuple))
                if isinstance(leads, tuple):
                    flat = tuple(lead for row in found.leads for lead in row)
                    self.assertEqual(leads[:len(flat)], flat)
        self.assertGreater(min(seen.values()), 20)

    def test_least_alike(self):
        for source, works in zip(sources(42), some_works(40, most_places=4, most_arrows=5)):
            marks = [mark for mark in list_marks(works) if mark[0] != "end"]
            for _ in range(4):
                lot = [mark for mark in marks if source.random() < 0.7]
                found = least_even_works(works, lot)
                flat = least_even(flatten_works(works).chart, flat_lot(works, lot))
                self.assertEqual(isinstance(found, EvenWorks), not isinstance(flat, BadWalk))
                if isinstance(found, EvenWorks):
                    leads = tuple(lead for row in found.leads for lead in row)
                    self.assertEqual(flat.leads[:len(leads)], leads)

    def test_largest(self):
        spin = Works([loop()], [(None,)])
        long = [("arrow", 0)] * 10000
        self.assertEqual(flat_run(spin, long), (0,) * 10000)
        self.assertEqual(steps_of_run(spin, (0,) * 400), (("arrow", 0),) * 400)
        self.refuses(BadRun, {"index": 0}, steps_of_run, spin, (0,) * 401)
        works = deep_works()
        self.assertEqual((len(flatten_works(works).chart), len(list_marks(works))), (16, 9 + 7 + 3))
        self.assertEqual(steps_of_run(works, flat_run(works, [("call",)] * 3)), (("call",),) * 3)

    def test_refused(self):
        for index, wrong in ((0, None), (0, (("arrow", 0),)), (1, [("call",), ("arrow", True)]), (4, (*WHOLE, ("return",)))):
            self.refuses(BadSteps, {"index": index}, flat_run, sample_works(), wrong)
        for index, wrong in [(0, wrong) for wrong in NO_SEQUENCES] + [(0, (0,)), (1, [3, 3]), (0, (True,)), (1, (3, 6)),
                                                                      (1, (3, -1))]:
            self.refuses(BadRun, {"index": index}, steps_of_run, sample_works(), wrong)
        for index, wrong in ((0, None), (0, (("end", 1, 1),)), (1, LOT[::-1]), (1, [LOT[0], ("call", 0, 1)])):
            self.refuses(BadWorkLot, {"index": index}, flat_lot, sample_works(), wrong)


class SpreadWorks(Raises, unittest.TestCase):
    def test_example(self):
        found = spread_works(sample_works())
        marks = (("arrow", 0, 0), ("call", 0, 0), ("arrow", 1, 0), ("arrow", 1, 1), ("end", 1, 1), ("end", 1, 2))
        spots = ((0, 0), (0, 1), (1, 0), (1, 1), (1, 2), (1, None))
        chart = Chart((2, 3, 5, 1, 4, 0), ((5, 1), (0, 2), (2, 3), (2, 4), (3, 5), (4, 5)))
        self.assertEqual(found, Spread(chart, spots, (0, 0, 1, 1, 1, 1), marks))
        self.assertTrue(is_deep_tuple(found.spots) and is_deep_tuple(found.copies) and is_deep_tuple(found.marks))

    def test_copies(self):
        found = spread_works(twice())
        # Copies 1 and 2 are of procedure 1, called at places 0 and 1; copies 3 and 4 are of procedure 2.
        self.assertEqual(found.copies, (0, 0, 0, 1, 1, 1, 2, 2, 2, 3, 3, 4, 4))
        self.assertEqual(found.spots, ((0, 0), (0, 1), (0, 2), (1, 0), (1, 1), (1, None), (1, 0), (1, 1), (1, None),
                                       (2, 0), (2, None), (2, 0), (2, None)))
        self.assertEqual(found.chart.costs, (1, 2, 3, 2, 0, 0, 2, 0, 0, 4, 0, 4, 0))
        self.assertEqual(found.marks, (("arrow", 0, 0), ("arrow", 0, 1), ("arrow", 0, 2), ("call", 0, 0), ("call", 0, 1),
                                       ("arrow", 1, 0), ("call", 1, 0), ("end", 1, 1), ("arrow", 1, 0), ("call", 1, 0),
                                       ("end", 1, 1), ("end", 2, 0), ("end", 2, 0)))
        self.assertEqual(found.chart.arrows, ((5, 1), (8, 2), (8, 1), (0, 3), (1, 6), (10, 4), (3, 9), (4, 5), (12, 7),
                                              (6, 11), (7, 8), (9, 10), (11, 12)))

    def test_all_runs(self):
        spread = 0
        for works in [twice(), *some_works(80, most_procedures=4)]:
            if find_call_ring(works) is not None:
                continue
            try:
                found = spread_works(works)
            except TooMany:
                continue
            spread += 1
            for length in range(7):
                told = {}
                for trail in trails(works, length):
                    run = spread_run(works, trail.steps)
                    told[run] = tuple(found.marks[arrow] for arrow in run)
                    self.assertEqual(told[run], trail.marks)
                    places = [0] + [found.chart.arrows[arrow][1] for arrow in run]
                    visits = [found.spots[place] for place in places if found.spots[place][1] is not None]
                    self.assertEqual(tuple(visits), trail.visits)
                self.assertEqual(sorted(told), plain_runs(found.chart, length))
        self.assertGreater(spread, 30)

    def test_meters(self):
        self.assertEqual(spread_meter(sample_meter()), Meter(spread_works(sample_works()).chart, 2, (0, 9, 0, 3, 0, 0)))
        for source in sources(20):
            meter = any_meter(source, twice())
            told = [mark_charge(meter, mark) for mark in spread_works(twice()).marks]
            self.assertEqual(spread_meter(meter), Meter(spread_works(twice()).chart, meter.first, told))

    def test_lows_and_highs(self):
        self.assertEqual(work_lows(sample_meter()), ((2, 3), (9, 4, 7)))
        self.assertEqual(work_highs(sample_meter()), ((2, 3), (9, 4, 7)))
        self.assertEqual(work_lows(sample_meter(2)), ((2, 3), (9, 6, 7)))
        self.assertEqual(work_highs(sample_meter(2)), ((2, 5), (9, 6, 7)))
        self.assertTrue(is_deep_tuple(work_lows(sample_meter())) and is_deep_tuple(work_highs(sample_meter())))

    def test_all_leads(self):
        drifting = 0
        for source, works in zip(sources(62), [twice(), *some_works(60)]):
            if find_call_ring(works) is not None:
                continue
            meter = any_meter(source, works)
            try:
                flat = spread_meter(meter)
            except TooMany:
                continue
            leads = {point: set() for point in list_points(works)}
            ways = trails_up_to(works, 13 if works == twice() else 7)
            for trail in ways:
                if not trail.returned:
                    leads[trail.point].add(trail_leads(meter, trail)[-1])
            for work, find, pick in ((work_lows, find_fall, min), (work_highs, find_rise, max)):
                drift = find(flat)
                if drift is not None:
                    drifting += 1
                    self.refuses(Drifting, {"ring": drift.ring, "by": drift.by}, work, meter)
                    continue
                found = work(meter)
                for (number, place), seen in leads.items():
                    if seen:
                        self.assertEqual(pick(found[number][place], *seen), found[number][place])
                    if seen and len(ways) < 40:
                        self.assertEqual(found[number][place], pick(seen))
        self.assertGreater(drifting, 10)

    def test_even_leads(self):
        for meter in some_work_meters(40):
            if find_call_ring(meter.works) is None:
                try:
                    lows = work_lows(meter)
                except TooMany:
                    continue
                self.assertEqual((lows, work_highs(meter)), (even_works(meter).leads,) * 2)

    def ring_works(self):
        return (lambda works: spread_works(works), lambda works: spread_run(works, None),
                lambda works: spread_meter(meter_from_leads(works, [[9] * len(chart) for chart in works.charts])),
                lambda works: work_lows(meter_from_leads(works, [[9] * len(chart) for chart in works.charts])),
                lambda works: work_highs(meter_from_leads(works, [[9] * len(chart) for chart in works.charts])))

    def test_ring_of_calls(self):
        for work in self.ring_works():
            self.refuses(RingOfCalls, {"points": ((0, 2),)}, work, calling_ring())
            # Told ahead of the number of places and of bad steps.
            either = Chart([1, 1, 1], [(0, 1), (0, 2), (1, 2)])
            works = Works([line(7), either], [(1, 1, 1, 1, 1, 1, None), (None, 1, None)])
            self.refuses(RingOfCalls, {"points": ((1, 1),)}, work, works)

    def test_many(self):
        # 14 points of copy 0 and two places of copy 1; then one more.
        self.assertEqual(len(spread_works(charts_apart(14)).chart), 16)
        three = Works([line(3), line(6)], [(1, 1, None), (None,) * 6])
        self.assertEqual(len(list_points(three)), 9)
        for work in self.ring_works():
            self.refuses(TooMany, {"count": 17}, work, three)
            self.refuses(TooMany, {"count": 4 + 3 * 4 + 6 * 4 + 12 * 4}, work, deep_works())
            # 2 arrows and 2 calls of copy 0; then for each call 13 arrows and an end, and one arrow more.
            ways = Works([line(3), Chart([1, 1], [(0, 1)] * 14)], [(1, 1, None), (None, None)])
            self.refuses(TooMany, {"count": 34}, work, ways)
        ways = Works([line(3), Chart([1, 1], [(0, 1)] * 13)], [(1, 1, None), (None, None)])
        self.assertEqual(len(spread_works(ways).chart.arrows), 32)
        both = Works([Chart([1] * 5, [(at, at + 1) for at in range(4)] + [(3, 4)]), Chart([1, 1, 1, 1], [
            (at, at + 1) for at in range(3) for _ in (0, 1)])], [(1, 1, 1, 1, None), (None,) * 4])
        # 5 places and 4 times 5, and 37 arrows: the places are told first.
        self.refuses(TooMany, {"count": 25}, spread_works, both)
        over = Works([Chart([1, 1, 1], [(0, 1), (1, 2), (1, 2)]), Chart([1, 1], [(0, 1)] * 13)],
                     [(1, 1, None), (None, None)])
        self.refuses(TooMany, {"count": 33}, spread_works, over)

    def test_refused(self):
        for index, wrong in ((0, None), (0, (("arrow", 0),)), (1, [("call",), ("arrow", True)]), (4, (*WHOLE, ("return",)))):
            self.refuses(BadSteps, {"index": index}, spread_run, sample_works(), wrong)
        self.assertEqual(spread_run(sample_works(), [list(step) for step in WHOLE]), (1, 3, 5, 0))

    def test_longest(self):
        works = Works([Chart([1, 1], [(0, 0), (0, 1)]), Chart([1], [])], [(1, None), (None,)])
        steps = [("call",), ("return",), ("arrow", 0)] * 3333
        run = spread_run(works, steps)
        self.assertEqual(run, (2, 3, 0) * 3333)
        self.assertEqual(flat_run(works, steps), (2, 3, 0) * 3333)


class Arguments(unittest.TestCase):
    def test_they_stay(self):
        steps, lot, run = [["call"], ["arrow", 1]], [list(mark) for mark in LOT], [3, 2]
        for work in (flat_run, spread_run):
            work(sample_works(), steps)
        flat_lot(sample_works(), lot)
        steps_of_run(sample_works(), run)
        self.assertEqual((steps, lot, run), ([["call"], ["arrow", 1]], [list(mark) for mark in LOT], [3, 2]))


if __name__ == "__main__":
    unittest.main()
