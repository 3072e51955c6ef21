"""[6.1] and [6.2]: works, points, marks, rings of calls."""

import unittest
from itertools import product
from types import SimpleNamespace

from helping import NO_NUMBERS, NO_SEQUENCES, Raises, calling_ring, deep_works, dense, example, is_deep_tuple, line
from helping import loop, random_chart, sample_works, some_works, sources, trails_up_to
from purseahead.charts import Chart
from purseahead.errors import BadPoint, BadWorks
from purseahead.works import Works, check_point, find_call_ring, list_called, list_calls, list_marks, list_points

ONE = Chart([2, 3], [(0, 1)])
TWO = Chart([5, 1, 4], [(0, 1), (0, 2)])
NONE_CALLED = (None, None, None)


def told(what, procedure=0, place=0):
    return {"what": what, "procedure": procedure, "place": place}


class Building(Raises, unittest.TestCase):
    def test_kept(self):
        works = Works([ONE, TWO], [[1, None], [None] * 3])
        self.assertEqual(vars(works), {"charts": (ONE, TWO), "calls": ((1, None), (None, None, None))})
        self.assertTrue(is_deep_tuple(works.charts) and is_deep_tuple(works.calls))
        self.assertEqual(works, Works((ONE, TWO), ((1, None), NONE_CALLED)))
        self.assertEqual(works, sample_works())
        self.assertEqual((len(works), len(Works([loop()], [[None]]))), (2, 1))

    def test_equal(self):
        works = sample_works()
        self.assertNotEqual(works, Works([ONE, Chart([5, 1, 3], TWO.arrows)], works.calls))
        self.assertNotEqual(works, Works([Chart([2, 3, 3], [(0, 1), (1, 2)]), TWO], [(1, None, None), NONE_CALLED]))
        around = Chart([1, 1, 1], [(0, 1), (1, 2), (0, 2)])
        self.assertNotEqual(Works([around], [(None, 0, None)]), Works([around], [NONE_CALLED]))
        for other in (None, 1, (), works.charts, vars(works), ONE):
            self.assertFalse(works == other)

    def test_arguments_stay(self):
        charts, calls = [ONE, TWO], [[1, None], [None] * 3]
        works = Works(charts, calls)
        charts.append(ONE)
        calls[0][0] = None
        self.assertEqual(works, sample_works())

    def bad(self, what, procedure, place, charts, calls):
        self.refuses(BadWorks, told(what, procedure, place), Works, charts, calls)

    def test_charts(self):
        for wrong in (*NO_SEQUENCES, (), [ONE] * 5, [None] * 5, ONE):
            self.bad("charts", 0, 0, wrong, None)
        self.assertEqual(len(Works([line(2)] * 4, [(1, None), (2, None), (3, None), (None, None)])), 4)
        for wrong in (None, 3, (), "x", [2, 3], ((2, 3), ((0, 1),))):
            self.bad("chart", 0, 0, [wrong, None], None)
            self.bad("chart", 2, 0, (ONE, TWO, wrong, wrong), None)

    def test_calls(self):
        for wrong in (*NO_SEQUENCES, (), [(1, None)], [(1, None), NONE_CALLED, ()]):
            self.bad("calls", 0, 0, (ONE, TWO), wrong)
        for wrong in (*NO_SEQUENCES, (), (1,), (1, None, None)):
            self.bad("row", 0, 0, (ONE, TWO), [wrong, wrong])
            self.bad("row", 1, 0, (ONE, TWO), [(1, None), wrong] if wrong != (1, None, None) else [(1, None), (1, 1)])
        for wrong in (-1, 2, *[each for each in NO_NUMBERS if each is not None]):
            self.bad("call", 0, 0, (ONE, TWO), [(wrong, wrong), None])
            self.bad("call", 1, 1, (ONE, TWO), [(1, None), (None, wrong, 0)])
            self.bad("call", 0, 1, (ONE, TWO), [(1, wrong), (None,)])

    def test_ends(self):
        self.bad("end", 0, 1, (ONE, TWO), [(1, 0), NONE_CALLED])
        self.bad("end", 1, 1, (ONE, TWO), [(1, None), (None, 1, 9)])
        self.bad("end", 0, 0, [Chart([1], [])], [(0,)])
        # Place by place: the end 1 is told ahead of the bad call behind it.
        self.bad("call", 1, 0, (ONE, TWO), [(1, None), (True, 1, None)])

    def test_many(self):
        # Points and return places: 15 and 1 are let in, 16 and 1 are not.
        self.assertEqual(len(list_points(Works([line(2), line(13)], [(1, None), (None,) * 13]))), 15)
        self.bad("many", 0, 0, [line(2), line(14)], [(1, None), (None,) * 14])
        self.assertEqual(len(Works([line(16)], [(None,) * 16])), 1)
        self.bad("many", 0, 0, [line(16), line(1)], [(None,) * 16, (None,)])
        # Arrows, calls and ends of called procedures: 30, 1 and 1 are let in.
        ways = Chart([1, 1], [(0, 1)] * 29)
        self.assertEqual(len(list_marks(Works([ONE, ways], [(1, None), (None, None)]))), 32)
        self.bad("many", 0, 0, [ONE, Chart([1, 1], [(0, 1)] * 30)], [(1, None), (None, None)])
        self.assertEqual(len(list_marks(Works([dense()], [(None,) * 16]))), 32)
        # Told ahead of a procedure that does not return or is not called.
        self.bad("many", 0, 0, [ONE, dense()], [(1, None), (None,) * 16])
        self.bad("many", 0, 0, [ONE, dense()], [(None, None), (None,) * 16])

    def test_return(self):
        self.bad("return", 1, 0, [ONE, loop()], [(1, None), (None,)])
        self.bad("return", 0, 0, [ONE], [(0, None)])
        self.bad("return", 1, 0, [ONE, ONE, ONE], [(1, None), (2, None), (1, None)])
        self.bad("return", 2, 0, [line(3), ONE, loop()], [(1, 2, None), (None, None), (None,)])
        # A procedure that is not called need not return.
        self.assertEqual(len(Works([loop()], [(None,)])), 1)
        # Told ahead of a procedure that is not reached.
        self.bad("return", 2, 0, [ONE, ONE, loop()], [(None, None), (2, None), (None,)])
        # The way around the call returns, so the call does, too.
        either = Chart([1, 1, 1], [(0, 1), (0, 2), (1, 2)])
        self.assertEqual(len(Works([either], [(None, 0, None)])), 1)
        self.bad("return", 0, 0, [Chart([1, 1, 1], [(0, 1), (1, 2)])], [(None, 0, None)])

    def test_reached(self):
        self.bad("reached", 1, 0, [ONE, TWO], [(None, None), NONE_CALLED])
        self.bad("reached", 1, 0, [ONE, ONE, ONE], [(None, None), (2, None), (None, None)])
        self.bad("reached", 2, 0, [ONE, ONE, ONE], [(1, None), (None, None), (None, None)])
        either = Chart([1, 1, 1], [(0, 1), (0, 2), (1, 2)])
        self.bad("reached", 1, 0, [ONE, either], [(None, None), (None, 1, None)])

    def test_all_small_calls(self):
        # What is refused does not return or is not reached, by going through all ways of some steps.
        found = set()
        for source in sources(60):
            charts = [random_chart(source, most_places=2, most_arrows=3) for _ in range(2)]
            for row in product((None, 0, 1), repeat=len(charts[0]) + len(charts[1])):
                calls = (row[:len(charts[0])], row[len(charts[0]):])
                what, procedure = self.plain_fault(charts, calls)
                found.add(what)
                if what is None:
                    visited = {point for trail in trails_up_to(Works(charts, calls), 8) for point in trail.visits}
                    self.assertEqual(tuple(sorted(visited)), list_points(Works(charts, calls)))
                elif what != "end":
                    self.bad(what, procedure, 0, charts, calls)
        self.assertEqual(found, {None, "end", "return", "reached"})

    def plain_fault(self, charts, calls):
        """None or the word for what is wrong, and the procedure; at most 8 steps are gone."""
        works = SimpleNamespace(charts=charts, calls=calls)
        if any(calls[number][end] is not None for number in (0, 1) for end in charts[number].ends):
            return "end", None
        for number in sorted({called for row in calls for called in row if called is not None}):
            ways = trails_up_to(works, 8, (number, 0))
            if not any(not way.pending and way.point[1] in charts[number].ends for way in ways):
                return "return", number
        visited = {number for way in trails_up_to(works, 8) for number, _ in way.visits}
        return (None, None) if 1 in visited or len(charts) == 1 else ("reached", 1)


class Lists(Raises, unittest.TestCase):
    def test_example(self):
        works = sample_works()
        self.assertEqual(list_points(works), ((0, 0), (0, 1), (1, 0), (1, 1), (1, 2)))
        self.assertEqual(list_calls(works), ((0, 0),))
        self.assertEqual(list_called(works), (1,))
        self.assertEqual(list_marks(works), (("arrow", 0, 0), ("arrow", 1, 0), ("arrow", 1, 1), ("call", 0, 0),
                                             ("end", 1, 1), ("end", 1, 2)))

    def test_others(self):
        works = calling_ring()
        self.assertEqual(list_calls(works), ((0, 1), (0, 2), (1, 1)))
        self.assertEqual(list_called(works), (0, 1))
        self.assertEqual(list_marks(works)[8:], (("call", 0, 1), ("call", 0, 2), ("call", 1, 1), ("end", 0, 3),
                                                 ("end", 1, 2)))
        alone = Works([loop()], [(None,)])
        self.assertEqual((list_points(alone), list_calls(alone), list_called(alone)), (((0, 0),), (), ()))
        self.assertEqual(list_marks(alone), (("arrow", 0, 0),))
        self.assertEqual(list_called(deep_works()), (1, 2, 3))

    def test_all_are_tuples(self):
        for works in some_works(20):
            for listed in (list_points(works), list_calls(works), list_called(works), list_marks(works)):
                self.assertTrue(is_deep_tuple(listed))
                self.assertEqual(list(listed), sorted(listed))

    def test_points(self):
        for point in list_points(calling_ring()):
            self.assertEqual(check_point(calling_ring(), point), point)
            self.assertEqual(check_point(calling_ring(), list(point)), point)
            self.assertIsInstance(check_point(calling_ring(), list(point)), tuple)
        for wrong in (*NO_SEQUENCES, (), (0,), (0, 0, 0), (0, 4), (1, 3), (2, 0), (-1, 0), (0, -1), (0, None), (1, None),
                      [None, 0], (True, 0), (0, True), ("0", 0), ((0, 0),)):
            self.refuses(BadPoint, {"point": wrong}, check_point, calling_ring(), wrong)


class CallRings(unittest.TestCase):
    def plain_ring(self, works):
        """The first ring among all rows of up to 4 call points."""
        points = list_calls(works)
        for many in range(1, 5):
            for ring in sorted(product(points, repeat=many)):
                nexts = [*ring[1:], ring[0]]
                if all(works.calls[point[0]][point[1]] == after[0] for point, after in zip(ring, nexts)):
                    return ring
        return None

    def test_ordinary(self):
        self.assertEqual(find_call_ring(sample_works()), None)
        self.assertEqual(find_call_ring(deep_works()), None)
        self.assertEqual(find_call_ring(calling_ring()), ((0, 2),))
        self.assertEqual(find_call_ring(Works([loop()], [(None,)])), None)

    def test_longer(self):
        either = Chart([1, 1, 1], [(0, 1), (0, 2), (1, 2)])
        for charts, calls, ring in (
                ([either] * 2, [(None, 1, None), (None, 0, None)], ((0, 1), (1, 1))),
                ([either] * 3, [(1, 2, None), (None, 2, None), (None, 1, None)], ((1, 1), (2, 1))),
                ([either] * 4, [(None, 1, None), (None, 2, None), (None, 3, None), (None, 0, None)],
                 ((0, 1), (1, 1), (2, 1), (3, 1))),
                ([either] * 3, [(1, 1, None), (None, 2, None), (None, 0, None)], ((0, 0), (1, 1), (2, 1)))):
            works = Works(charts, calls)
            self.assertEqual(find_call_ring(works), ring)
            self.assertTrue(is_deep_tuple(find_call_ring(works)))

    def test_all_rings(self):
        found = set()
        for works in some_works(150, most_procedures=4, most_places=3):
            ring = find_call_ring(works)
            self.assertEqual(ring, self.plain_ring(works))
            found.add(None if ring is None else len(ring))
        self.assertGreaterEqual(found, {None, 1, 2})


if __name__ == "__main__":
    unittest.main()
