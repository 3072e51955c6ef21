"""[6.3] and [6.4]: steps, standings, visits, all runs, first runs."""

import unittest
from itertools import islice

from helping import NO_NUMBERS, NO_SEQUENCES, Raises, Trail, calling_ring, deep_works, is_deep_tuple, line, loop
from helping import sample_works, some_works, trail_along, trails, trails_up_to
from purseahead.charts import Chart
from purseahead.errors import BadLength, BadPoint, BadProcedure, BadSteps
from purseahead.workruns import Standing, all_work_runs, can_go_on, check_steps, count_work_runs, find_run_to
from purseahead.workruns import find_whole_run, following_steps, longest_stays, stand_after, used_by_steps, visits_of
from purseahead.works import Works, list_points

WHOLE = (("call",), ("arrow", 1), ("return",), ("arrow", 0))
NO_STEPS = (None, 3, "call", (), ("call", 0), ("Call",), ("arrow",), ("arrow", -1), ("arrow", 9), ("arrow", True),
            ("arrow", False), ("arrow", None), ("arrow", "0"), ("arrow", 0, 0), ("return", 0), ("back", 0), (0, "arrow"),
            {"call": 1}, [["call"]], b"call", ("end",))
STEP_WORKS = (check_steps, following_steps, stand_after, visits_of, used_by_steps)


def around():
    """One procedure that calls itself or goes around: 0 to the end 2, or over the call of 1."""
    return Works([Chart([1, 2, 0], [(0, 1), (0, 2), (1, 2)])], [(None, 0, None)])


def wide():
    """32 arrows from a place to itself: 32 runs of one step, and 32 times as many with each step more."""
    return Works([Chart([1], [(0, 0)] * 32)], [(None,)])


class Steps(Raises, unittest.TestCase):
    def test_example(self):
        works = sample_works()
        for many in range(5):
            self.assertEqual(check_steps(works, WHOLE[:many]), WHOLE[:many])
            self.assertEqual(check_steps(works, [list(step) for step in WHOLE[:many]]), WHOLE[:many])
        self.assertTrue(is_deep_tuple(check_steps(works, [list(step) for step in WHOLE])))
        told = [following_steps(works, WHOLE[:many]) for many in range(5)]
        self.assertEqual(told, [(("call",),), (("arrow", 0), ("arrow", 1)), (("return",),), (("arrow", 0),), ()])
        told = [stand_after(works, WHOLE[:many]) for many in range(5)]
        self.assertEqual(told, [Standing((), (0, 0), False), Standing(((0, 0),), (1, 0), False),
                                Standing(((0, 0),), (1, 2), False), Standing((), (0, 0), True),
                                Standing((), (0, 1), False)])
        self.assertEqual(visits_of(works, list(WHOLE)), ((0, 0), (1, 0), (1, 2), (0, 1)))
        self.assertEqual([used_by_steps(works, WHOLE[:many]) for many in range(5)], [2, 7, 11, 11, 14])

    def bad(self, index, steps, works=None):
        for work in STEP_WORKS:
            self.refuses(BadSteps, {"index": index}, work, works or sample_works(), steps)

    def test_no_sequence(self):
        for wrong in NO_SEQUENCES:
            self.bad(0, wrong)

    def test_no_step(self):
        for wrong in NO_STEPS:
            self.bad(0, (wrong,))
            self.bad(1, [("call",), wrong, wrong])
            self.bad(4, [*WHOLE, wrong])

    def test_may_not_come_there(self):
        self.bad(0, (("arrow", 0),))
        self.bad(0, (("return",), ("call",)))
        self.bad(1, (("call",), ("call",)))
        self.bad(1, (("call",), ("return",)))
        self.bad(2, (("call",), ("arrow", 0), ("arrow", 0)))
        self.bad(3, (*WHOLE[:3], ("call",)))
        self.bad(3, (*WHOLE[:3], ("arrow", 1)))
        self.bad(3, (*WHOLE[:3], ("return",)))
        self.bad(4, (*WHOLE, ("return",)))
        # Procedure 0 is called, too: its end returns only if a call is pending.
        self.bad(1, (("arrow", 1), ("return",)), around())
        self.assertEqual(following_steps(around(), (("arrow", 1),)), ())
        self.assertEqual(following_steps(around(), (("arrow", 0), ("call",), ("arrow", 1))), (("return",),))
        self.assertEqual(following_steps(around(), (("arrow", 0), ("call",), ("arrow", 1), ("return",))),
                         (("arrow", 2),))

    def test_all_runs(self):
        for works in some_works(30):
            for trail in trails_up_to(works, 5):
                steps = trail.steps
                self.assertEqual(check_steps(works, [list(step) for step in steps]), steps)
                self.assertEqual(stand_after(works, steps), Standing(trail.pending, trail.point, trail.returned))
                self.assertEqual(visits_of(works, steps), trail.visits)
                self.assertEqual(used_by_steps(works, steps), sum(works.charts[number].costs[place]
                                                                  for number, place in trail.visits))
                told = tuple(further.steps[-1] for further in trail.goings())
                self.assertEqual(following_steps(works, steps), told)
                for step in (("call",), ("return",), ("arrow", 0), ("arrow", 1), ("arrow", 2)):
                    if step not in told:
                        self.refuses(BadSteps, {"index": len(steps)}, check_steps, works, [*steps, step])

    def test_longest(self):
        spin = Works([loop()], [(None,)])
        long = [("arrow", 0)] * 10000
        self.assertEqual(check_steps(spin, long), tuple(long))
        self.assertEqual(used_by_steps(spin, long), 10001)
        self.bad(0, [*long, ("arrow", 0)], spin)
        self.bad(9999, [*long[:9999], ("arrow", 1)], spin)
        # 5000 pending calls of one procedure, and a return from each of them.
        deep = [("arrow", 0), ("call",)] * 2500 + [("arrow", 1)]
        self.assertEqual(stand_after(around(), deep), Standing(((0, 1),) * 2500, (0, 2), False))
        deep = deep + [("return",), ("arrow", 2)] * 2499
        self.assertEqual(len(deep), 9999)
        self.assertEqual(stand_after(around(), deep), Standing(((0, 1),), (0, 2), False))
        self.assertEqual(following_steps(around(), [*deep, ("return",)]), (("arrow", 2),))
        self.assertEqual(len(visits_of(around(), deep)), 1 + 5001 + 2499)


class AllRuns(Raises, unittest.TestCase):
    def test_example(self):
        works = sample_works()
        self.assertEqual(list(all_work_runs(works, 0)), [()])
        self.assertEqual(list(all_work_runs(works, 2)), [(("call",), ("arrow", 0)), (("call",), ("arrow", 1))])
        self.assertEqual([len(list(all_work_runs(works, length))) for length in range(6)], [1, 1, 2, 2, 2, 0])
        self.assertEqual([count_work_runs(works, length) for length in range(6)], [1, 1, 2, 2, 2, 0])

    def test_all_runs(self):
        for works in some_works(60, most_places=4, most_arrows=5):
            for length in range(7):
                told = [trail.steps for trail in trails(works, length)]
                self.assertEqual(list(all_work_runs(works, length)), told)
                self.assertEqual(told, sorted(told))
                self.assertEqual(count_work_runs(works, length), len(told))

    def test_no_start_is_gone_on_with_for_nothing(self):
        for works in some_works(30, most_places=4, most_arrows=5):
            ways = trails_up_to(works, 7)
            longest = longest_stays(works, 7)
            goes_on = {}
            for trail in reversed(ways):
                left = max([1 + goes_on[further.steps] for further in trail.goings() if further.steps in goes_on], default=0)
                goes_on[trail.steps] = left
                for many in range(8 - len(trail.steps)):
                    found = can_go_on(longest, trail.pending, (trail.point, trail.returned), many)
                    self.assertEqual(found, many <= left)

    def test_longer(self):
        for works in (sample_works(), around(), deep_works()):
            found = trails_up_to(works, 12)
            for length in (8, 10, 12):
                told = [trail.steps for trail in found if len(trail.steps) == length]
                self.assertEqual(list(all_work_runs(works, length)), told)
                self.assertEqual(count_work_runs(works, length), len(told))
        self.assertTrue(all(is_deep_tuple(run) for run in all_work_runs(calling_ring(), 6)))

    def test_largest(self):
        self.assertEqual(count_work_runs(wide(), 60), 32 ** 60)
        self.assertEqual(list(islice(all_work_runs(wide(), 12), 2)), [(("arrow", 0),) * 12,
                                                                     (("arrow", 0),) * 11 + (("arrow", 1),)])
        # Runs through the deep works end after just so many steps.
        steps = find_whole_run(deep_works(), 0)
        self.assertEqual(len(steps), 3 + 3 * (2 + 2 + 2 * (2 + 2 + 2 * 4)))
        self.assertEqual([count_work_runs(deep_works(), length) for length in (0, 30, 60)], [1, 1, 1])
        # Many starts, of which none but the last goes on: 2 ** 20 of them would be gone through before it.
        blind = Chart([1] * 16, [(at, at + 1) for at in range(10) for _ in (0, 1)] + [(0, 11), (11, 12), (12, 13),
                                                                                 (13, 14), (14, 15), (15, 15)])
        blind = Works([blind], [(None,) * 16])
        self.assertEqual(list(all_work_runs(blind, 12)), [(("arrow", 20), ("arrow", 21), ("arrow", 22), ("arrow", 23),
                                                           ("arrow", 24)) + (("arrow", 25),) * 7])
        self.assertEqual(count_work_runs(blind, 12), 1)
        self.assertEqual(count_work_runs(blind, 10), 1024 + 1)

    def test_refused(self):
        for wrong in (-1, 13, 60, *NO_NUMBERS):
            self.refuses(BadLength, {"length": wrong}, all_work_runs, sample_works(), wrong)
        for wrong in (-1, 61, *NO_NUMBERS):
            self.refuses(BadLength, {"length": wrong}, count_work_runs, sample_works(), wrong)


def first(ways):
    return min(ways, key=lambda steps: (len(steps), steps), default=None)


class FirstRuns(Raises, unittest.TestCase):
    def test_example(self):
        works = sample_works()
        self.assertEqual(find_whole_run(works, 0), (("call",), ("arrow", 0), ("return",), ("arrow", 0)))
        self.assertEqual(find_whole_run(works, 1), (("arrow", 0),))
        told = [find_run_to(works, point) for point in list_points(works)]
        self.assertEqual(told, [(), (("call",), ("arrow", 0), ("return",), ("arrow", 0)), (("call",),),
                                (("call",), ("arrow", 0)), (("call",), ("arrow", 1))])
        self.assertEqual(find_run_to(works, [1, 2]), (("call",), ("arrow", 1)))
        self.assertTrue(all(is_deep_tuple(steps) for steps in told))

    def test_no_end(self):
        self.assertEqual(find_whole_run(Works([loop()], [(None,)]), 0), None)
        self.assertEqual(find_whole_run(Works([Chart([1], [])], [(None,)]), 0), ())
        self.assertEqual(find_whole_run(around(), 0), (("arrow", 1),))

    def test_fewest_steps_then_least(self):
        # Over the call there are more steps than along the arrows behind it.
        works = Works([Chart([1] * 5, [(0, 1), (0, 2), (1, 4), (2, 3), (3, 4)]), line(1)],
                      [(None, 1, None, None, None), (None,)])
        self.assertEqual(find_whole_run(works, 0), (("arrow", 1), ("arrow", 3), ("arrow", 4)))
        equal = Works([Chart([1] * 6, [(0, 2), (0, 1), (2, 3), (3, 4), (4, 5), (1, 5)]), line(1)],
                      [(None, 1, None, None, None, None), (None,)])
        self.assertEqual(find_whole_run(equal, 0), (("arrow", 0), ("arrow", 2), ("arrow", 3), ("arrow", 4)))

    def test_all_runs(self):
        for works in some_works(60, most_places=4, most_arrows=5):
            ways = trails_up_to(works, 7)
            for point in list_points(works):
                found = find_run_to(works, point)
                told = first(way.steps for way in ways if way.point == point and not way.returned)
                if told is None:
                    self.assertGreater(len(found), 7)
                else:
                    self.assertEqual(found, told)
                way = trail_along(works, found)
                self.assertEqual((way.point, way.returned), (point, False))
            for number in range(len(works)):
                ends = works.charts[number].ends
                told = first(way.steps for way in trails_up_to(works, 7, (number, 0))
                             if not way.pending and way.point[1] in ends)
                found = find_whole_run(works, number)
                if told is not None:
                    self.assertEqual(found, told)
                elif found is not None:
                    self.assertGreater(len(found), 7)

    def test_deep(self):
        works = deep_works()
        steps = find_whole_run(works, 0)
        self.assertEqual(trail_along(works, steps).point, (0, 3))
        self.assertEqual(find_run_to(works, (0, 3)), steps)
        found = find_run_to(works, (3, 2))
        self.assertEqual(found, (("call",), ("call",), ("call",), ("arrow", 0), ("arrow", 1)))
        # Calls of calls of calls, before the first place that only they lead to.
        self.assertEqual(len(find_run_to(works, (1, 2))), 1 + 2 + 2 * (2 + 2 + 2 * 4))

    def test_refused(self):
        for wrong in (-1, 2, *NO_NUMBERS):
            self.refuses(BadProcedure, {"procedure": wrong}, find_whole_run, sample_works(), wrong)
        for wrong in (*NO_SEQUENCES, (), (0, 2), (2, 0), (1, None), (True, 0), (0, True), (0, 0, 0), 0):
            self.refuses(BadPoint, {"point": wrong}, find_run_to, sample_works(), wrong)


class Arguments(unittest.TestCase):
    def test_they_stay(self):
        steps = [["call"], ["arrow", 1], ("return",)]
        for work in STEP_WORKS:
            work(sample_works(), steps)
        self.assertEqual(steps, [["call"], ["arrow", 1], ("return",)])
        point = [1, 2]
        find_run_to(sample_works(), point)
        self.assertEqual(point, [1, 2])
        self.assertEqual(Trail(sample_works()).steps, ())


if __name__ == "__main__":
    unittest.main()
