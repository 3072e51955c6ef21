"""[10.1] to [10.3] and [10.12]: logs, and what they tell of the runs."""

import unittest

from helping import BAD_RUNS, NO_NUMBERS, NO_SEQUENCES, Raises, dense, end_of, even_meter, example, example_meter
from helping import is_deep_tuple, line, loop, metered, random_meter, runs_up_to, sources, uncovered, uneven, visits
from purseahead.charts import Chart
from purseahead.covering import even_leads
from purseahead.errors import BadLog, BadPlace, BadRun, Misfit, NotMetered, NotThere
from purseahead.logs import check_log, find_log_run, find_places, log_of, some_arrows, sure_arrows, used_range
from purseahead.meters import Meter
from purseahead.runs import used_by

MOST = 10 ** 12
LENGTH = 8
# Each with the index that is told.
BAD_LOGS = ([(0, wrong) for wrong in (*NO_SEQUENCES, (), [1] * 25)] + [(0, (wrong, None)) for wrong in (-1, MOST + 1, *NO_NUMBERS)]
            + [(2, [0, 1, wrong, None]) for wrong in (-1, 0, MOST + 1, *NO_NUMBERS)])


def plain_log(meter, run):
    return (meter.first,) + tuple(meter.charges[arrow] for arrow in run if meter.charges[arrow])


def small_meters(count):
    """Meters on charts of few places, with few unlike charges, so that many runs have one log."""
    found = []
    for source in sources(count):
        meter = random_meter(source, most_charge=2, most_places=3, most_arrows=4)
        if len(runs_up_to(meter.chart, LENGTH)) < 3000:
            found.append(meter)
    return found


def runs_by_log(meter):
    """All runs of few arrows by their logs of up to three entries."""
    found = {}
    for run in runs_up_to(meter.chart, LENGTH):
        if len(plain_log(meter, run)) <= 3:
            found.setdefault(plain_log(meter, run), []).append(run)
    return found


def long_row(entries):
    """A meter on a ring that charges 1, 2, 3 and so on, as far as it is long, behind the first charge 0."""
    count = min(entries, 16)
    chart = Chart([0] * count, [(at, (at + 1) % count) for at in range(count)])
    return Meter(chart, 0, list(range(1, count + 1)))


class Logs(Raises, unittest.TestCase):
    def test_log_of(self):
        self.assertEqual(log_of(example_meter(), ()), (6,))
        self.assertEqual(log_of(example_meter(), [0, 1, 2, 3, 4]), (6, 5, 6))
        self.assertEqual(log_of(example_meter(0), (0, 1)), (0, 5))
        self.assertEqual(log_of(uneven(), (2, 3) * 200), (6,) + (7,) * 200)
        for meter in small_meters(30):
            for run in runs_up_to(meter.chart, 3):
                self.assertEqual(log_of(meter, list(run)), plain_log(meter, run))
                self.assertIsInstance(log_of(meter, run), tuple)
        for index, wrong in BAD_RUNS:
            self.refuses(BadRun, {"index": index}, log_of, example_meter(), wrong)

    def test_check(self):
        for log in ((0,), [MOST], (0, 1), [6, 5, MOST], (1,) * 24, [0] + [1] * 23):
            self.assertEqual(check_log(log), tuple(log))
            self.assertIsInstance(check_log(log), tuple)

    def test_bad_logs(self):
        works = (find_places, sure_arrows, some_arrows, used_range, lambda meter, log: find_log_run(meter, log, None))
        for index, wrong in BAD_LOGS:
            self.refuses(BadLog, {"index": index}, check_log, wrong)
            for work in works:
                self.refuses(BadLog, {"index": index}, work, example_meter(), wrong)
        self.refuses(BadLog, {"index": 23}, check_log, [1] * 23 + [0])
        self.refuses(BadLog, {"index": 1}, check_log, (0, 0))


class Places(Raises, unittest.TestCase):
    def test_example(self):
        self.assertEqual(find_places(example_meter(), (6,)), (0, 1, 2, 3))
        self.assertEqual(find_places(example_meter(), [6, 5]), (0, 1, 2, 3))
        self.refuses(Misfit, {"index": 1}, find_places, example_meter(), (6, 7))
        self.assertEqual(sure_arrows(example_meter(), (6, 5)), (0, 1))
        self.assertEqual(some_arrows(example_meter(), (6, 5)), (0, 1, 2, 4))
        self.assertEqual(used_range(example_meter(), (6,)), (2, 6))
        self.assertEqual(used_range(example_meter(), [6, 5]), (7, 11))

    def test_all_runs(self):
        several = sure = 0
        for meter in small_meters(60):
            for log, runs in runs_by_log(meter).items():
                by_place = {}
                for run in runs:
                    by_place.setdefault(end_of(meter.chart, run), []).append(run)
                self.assertEqual(find_places(meter, list(log)), tuple(sorted(by_place)))
                several += len(by_place) > 1
                for place in range(len(meter.chart)):
                    self.check_run(meter, log, place, by_place.get(place))
                every = set.intersection(*[set(run) for run in runs])
                self.assertEqual(sure_arrows(meter, list(log)), tuple(sorted(every)))
                sure += bool(every)
                some = set().union(*runs)
                self.assertEqual(some_arrows(meter, list(log)), tuple(sorted(some)))
                for found in (find_places(meter, log), sure_arrows(meter, log), some_arrows(meter, log)):
                    self.assertTrue(is_deep_tuple(found))
        self.assertTrue(several > 60 and sure > 60, (several, sure))

    def check_run(self, meter, log, place, runs):
        if runs is None:
            self.refuses(NotThere, {"place": place}, find_log_run, meter, list(log), place)
        else:
            self.assertEqual(find_log_run(meter, list(log), place), min(runs, key=lambda run: (len(run), run)))
            self.assertIsInstance(find_log_run(meter, log, place), tuple)

    def test_misfits(self):
        """Every log of few small entries: the first entries that no run begins with."""
        misfits = set()
        for meter in small_meters(40):
            made = {plain_log(meter, run) for run in runs_up_to(meter.chart, LENGTH)}
            logs = [(first, *rest) for first in range(3) for rest in ((), (1,), (2,), (1, 1), (1, 2), (2, 1), (2, 2), (3, 1))]
            for log in logs:
                missed = [index for index in range(len(log)) if log[:index + 1] not in made]
                if not missed:
                    self.assertTrue(find_places(meter, log))
                    continue
                misfits.add(missed[0])
                for work in (find_places, sure_arrows, some_arrows, lambda meter, log: find_log_run(meter, log, 0)):
                    self.refuses(Misfit, {"index": missed[0]}, work, meter, log)
        self.assertEqual(misfits, {0, 1, 2})

    def test_edges(self):
        lone = Meter(Chart([3], []), 0, [])
        self.assertEqual(find_places(lone, (0,)), (0,))
        self.refuses(Misfit, {"index": 0}, find_places, lone, (1,))
        self.refuses(Misfit, {"index": 1}, find_places, lone, (0, 1))
        much = Meter(loop(), MOST, [MOST])
        self.assertEqual(find_places(much, (MOST,) * 24), (0,))
        self.assertEqual(find_log_run(much, [MOST] * 24, 0), (0,) * 23)
        self.assertEqual((sure_arrows(much, (MOST,) * 2), some_arrows(much, (MOST,) * 2)), ((0,), (0,)))
        self.assertEqual((sure_arrows(much, (MOST,)), some_arrows(much, (MOST,))), ((), ()))
        self.refuses(Misfit, {"index": 23}, find_places, much, [MOST] * 23 + [1])
        ring = long_row(16)
        log = (0, *range(1, 17), *range(1, 8))
        self.assertEqual(len(log), 24)
        self.assertEqual(find_places(ring, log), (7,))
        self.assertEqual(find_log_run(ring, log, 7), tuple(at % 16 for at in range(23)))
        self.assertEqual(sure_arrows(ring, log), tuple(range(16)))

    def test_long_run(self):
        # Only one arrow of the ring charges, so a long way is free ahead of each entry.
        chart = Chart([0] * 16, [(at, (at + 1) % 16) for at in range(16)])
        meter = Meter(chart, 5, [0] * 15 + [7])
        run = find_log_run(meter, (5,) + (7,) * 23, 15)
        self.assertEqual(run, tuple(at % 16 for at in range(16 * 23 + 15)))
        self.assertEqual(find_places(meter, (5,) + (7,) * 23), tuple(range(16)))
        self.assertEqual(sure_arrows(meter, (5, 7)), tuple(range(16)))
        self.assertEqual(sure_arrows(meter, (5,)), ())
        self.assertEqual(some_arrows(meter, (5,)), tuple(range(15)))

    def test_dense(self):
        meter = Meter(dense(), 1, [at % 3 for at in range(32)])
        log = (1,) + (2, 1) * 11
        places = find_places(meter, log)
        for place in places:
            run = find_log_run(meter, log, place)
            self.assertEqual((plain_log(meter, run), end_of(dense(), run)), (log, place))
        self.assertTrue(set(sure_arrows(meter, log)) <= set(some_arrows(meter, log)))

    def test_order_of_errors(self):
        for wrong in (-1, 4, *NO_NUMBERS):
            self.refuses(BadPlace, {"place": wrong}, find_log_run, example_meter(), (7,), wrong)
        self.refuses(BadLog, {"index": 0}, find_log_run, example_meter(), (), 9)
        self.refuses(Misfit, {"index": 0}, find_log_run, example_meter(), (7,), 3)
        one_way = Meter(line(3), 1, (0, 2))
        self.refuses(NotThere, {"place": 2}, find_log_run, one_way, (1,), 2)
        self.refuses(NotThere, {"place": 0}, find_log_run, one_way, (1, 2), 0)

    def test_arguments_stay(self):
        log = [6, 5]
        for work in (find_places, sure_arrows, some_arrows, used_range, lambda meter, told: find_log_run(meter, told, 0)):
            work(example_meter(), log)
        check_log(log)
        self.assertEqual(log, [6, 5])


class UsedRanges(Raises, unittest.TestCase):
    def test_all_runs(self):
        ranges = 0
        for source in sources(80):
            for make in (metered, even_meter):
                meter = make(source, most_places=3, most_arrows=4, most_cost=2)
                if len(runs_up_to(meter.chart, 7)) > 3000:
                    continue
                for log, runs in runs_by_log(meter).items():
                    used = [used_by(meter.chart, run) for run in runs]
                    self.assertEqual(used_range(meter, list(log)), (min(used), max(used)))
                    self.assertIsInstance(used_range(meter, log), tuple)
                    ranges += min(used) < max(used)
                    leads = even_leads(meter)
                    for run in runs:
                        place = end_of(meter.chart, run)
                        self.assertEqual(used_by(meter.chart, run), sum(log) - (leads[place] - meter.chart.costs[place]))
        self.assertGreater(ranges, 20)

    def test_uncovered(self):
        # The meter need not be covered.
        self.assertEqual(used_range(uncovered(), (5,)), (2, 6))
        self.assertEqual(visits(example(), (2,)), [0, 2])

    def test_refused(self):
        for log in (None, (7,), (6,)):
            self.refuses(NotMetered, {"what": "even"}, used_range, uneven(), log)
        self.refuses(BadLog, {"index": 0}, used_range, uncovered(), ())
        self.refuses(Misfit, {"index": 0}, used_range, uncovered(), (6,))
        self.refuses(Misfit, {"index": 2}, used_range, example_meter(), (6, 5, 7))


if __name__ == "__main__":
    unittest.main()
