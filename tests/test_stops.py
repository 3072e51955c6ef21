"""[5.1] to [5.7] and [5.14]: limits, plain counting, the one-paced code, decided for all runs and limits."""

import unittest

from helping import BAD_RUNS, SMALL, WRONG_LIMITS, WRONG_SPANS, Raises, dense, example, example_meter, is_deep_tuple
from helping import ladder, limits_of, line, loop, metered, plain_places, runs_up_to, some_metered, sources
from helping import uncovered, uneven, visits
from purseahead.charts import Chart
from purseahead.covering import even_leads, is_metered
from purseahead.errors import BadLimit, BadMost, BadRun, NotMetered, Unlike
from purseahead.leastmeters import least_meter, meter_of
from purseahead.meters import Meter
from purseahead.parts import check_ring
from purseahead.runs import check_run
from purseahead.stops import Early, Further, Lag, Stop, Stretch, Untested, check_limit, early_most, find_further
from purseahead.stops import good_leads, lag_most, one_paced, plain_stop, untested_most


def one_paced_places(meter, run, limit):
    """(places, unused, the charge at which the code stops or None) of the one-paced code."""
    chart = meter.chart
    if limit < meter.first:
        return 0, limit, "first"
    purse, used, places = limit - meter.first, chart.costs[0], 1
    for arrow in run:
        charge = meter.charges[arrow]
        if charge > 0:
            if purse < charge:
                return places, limit - used, arrow
            purse -= charge
        used += chart.costs[chart.arrows[arrow][1]]
        places += 1
    return places, limit - used, None


class Limits(Raises, unittest.TestCase):
    def test_taken(self):
        for limit in (0, 1, 10 ** 15):
            self.assertEqual(check_limit(limit), limit)

    def test_refused(self):
        for wrong in WRONG_LIMITS:
            self.refuses(BadLimit, {"limit": wrong}, check_limit, wrong)
            self.refuses(BadLimit, {"limit": wrong}, plain_stop, example(), (0, 1), wrong)
            self.refuses(BadLimit, {"limit": wrong}, one_paced, example_meter(), [0, 1], wrong)


class GoodLeads(Raises, unittest.TestCase):
    def test_ordinary(self):
        self.assertEqual(good_leads(example_meter()), (6, 4, 4, 4))
        self.assertEqual(good_leads(example_meter(10 ** 12)), tuple(lead + 10 ** 12 - 6 for lead in (6, 4, 4, 4)))
        self.assertEqual(good_leads(Meter.plain(dense())), dense().costs)
        self.assertTrue(is_deep_tuple(good_leads(example_meter())))

    def test_refused(self):
        works = (good_leads, early_most, untested_most, lambda meter: one_paced(meter, (9,), -1),
                 lambda meter: lag_most(meter, 0), lambda meter: find_further(meter, uneven()),
                 lambda meter: find_further(meter, Meter(loop(), 1, [1])))
        for work in works:
            self.refuses(NotMetered, {"what": "even"}, work, uneven())
            self.refuses(NotMetered, {"what": "covered"}, work, uncovered())
            # Neither even nor covered: even comes first.
            self.refuses(NotMetered, {"what": "even"}, work, example_meter(0, (0, 0, 0, 0, 9)))
            self.refuses(NotMetered, {"what": "even"}, work, example_meter(0, (0, 9, 0, 0, 0)))

    def test_all_meters(self):
        # Charges drawn freely are seldom even, those that follow leads always are.
        seen = set()
        for source in sources(200):
            chart = metered(source, **SMALL).chart
            meter = Meter(chart, source.randint(0, 4), [source.randint(0, 2) for _ in chart.arrows])
            for each in (meter, metered(source, **SMALL)):
                leads = even_leads(each)
                if is_metered(each):
                    self.assertEqual(good_leads(each), leads)
                    seen.add("good")
                else:
                    what = "covered" if isinstance(leads, tuple) else "even"
                    self.refuses(NotMetered, {"what": what}, good_leads, each)
                    seen.add(what)
        self.assertEqual(seen, {"good", "even", "covered"})


class PlainStops(Raises, unittest.TestCase):
    def test_ordinary(self):
        for limit, told in ((0, 0), (1, 0), (2, 1), (4, 1), (5, 2), (6, 2), (7, 3), (10, 3), (11, 4), (10 ** 15, 4)):
            self.assertEqual(plain_stop(example(), (0, 1, 2), limit), told)
            self.assertEqual(plain_stop(example(), [0, 1, 2], limit), told)
        self.assertEqual(plain_stop(example(), (), 1), 0)
        self.assertEqual(plain_stop(example(), (), 2), 1)
        self.assertEqual(plain_stop(Chart([0], [(0, 0)]), (0, 0), 0), 3)

    def test_all_runs(self):
        for meter in some_metered(30, **SMALL):
            for run in runs_up_to(meter.chart, 4):
                for limit in limits_of(meter, run):
                    self.assertEqual(plain_stop(meter.chart, run, limit), plain_places(meter.chart, run, limit))

    def test_refused(self):
        for index, wrong in BAD_RUNS:
            self.refuses(BadRun, {"index": index}, plain_stop, example(), wrong, 5)
            self.refuses(BadRun, {"index": index}, plain_stop, example(), wrong, -1)
            self.refuses(BadRun, {"index": index}, one_paced, example_meter(), wrong, 5)
            self.refuses(BadRun, {"index": index}, one_paced, example_meter(), wrong, -1)

    def test_largest(self):
        run = (0,) * 400
        self.assertEqual(plain_stop(loop(), run, 400), 400)
        self.assertEqual(plain_stop(loop(), run, 401), 401)
        self.assertEqual(one_paced(Meter.plain(loop()), run, 300), Stop(300, 0))


class OnePaced(unittest.TestCase):
    def test_example(self):
        self.assertEqual(one_paced(example_meter(), (0, 1, 2), 9), Stop(2, 4))
        self.assertEqual(one_paced(example_meter(), [0, 1, 4], 9), Stop(2, 4))
        self.assertEqual(one_paced(example_meter(), (0, 1, 2), 11), Stop(4, 0))
        self.assertEqual(one_paced(example_meter(), (0, 1, 2), 10), Stop(2, 5))
        self.assertEqual(one_paced(example_meter(), (), 6), Stop(1, 4))
        self.assertEqual(one_paced(example_meter(), (0,), 5), Stop(0, 5))
        self.assertEqual(one_paced(example_meter(), (0,), 0), Stop(0, 0))

    def test_all_runs(self):
        for meter in some_metered(40, **SMALL):
            leads = good_leads(meter)
            for run in runs_up_to(meter.chart, 4):
                for limit in limits_of(meter, run):
                    places, unused, stopped = one_paced_places(meter, run, limit)
                    self.assertEqual(one_paced(meter, run, limit), Stop(places, unused))
                    self.assertGreaterEqual(unused, 0)
                    self.assertLessEqual(places, plain_places(meter.chart, run, limit))
                    if stopped is not None:
                        behind = 0 if stopped == "first" else meter.chart.arrows[stopped][1]
                        self.assertLessEqual(unused, leads[behind] - 1)


class EarlyMost(unittest.TestCase):
    def check(self, meter, found):
        """Whether the told run and limit stop with just the told unused, at the charge that they must."""
        self.assertIsInstance(found, Early)
        self.assertTrue(is_deep_tuple(found.run))
        self.assertEqual(check_run(meter.chart, found.run), found.run)
        check_limit(found.limit)
        places, unused, stopped = one_paced_places(meter, found.run, found.limit)
        self.assertEqual((places, unused), (len(found.run), found.unused))
        self.assertEqual(stopped, found.run[-1] if found.run else "first")

    def test_example(self):
        found = early_most(example_meter())
        self.assertEqual(found.unused, 5)
        self.check(example_meter(), found)
        self.check(Meter(loop(), 1, [1]), early_most(Meter(loop(), 1, [1])))
        # The first charge is 0, a later one is not.
        late = Meter(Chart([0, 4], [(0, 1)]), 0, [5])
        self.assertEqual(early_most(late), Early(4, (0,), 4))

    def test_none(self):
        self.assertEqual(early_most(Meter(Chart([0], []), 0, [])), None)
        self.assertEqual(early_most(Meter(Chart([0, 0], [(0, 1), (1, 0)]), 0, [0, 0])), None)
        self.assertEqual(early_most(Meter(line(3), 3, [0, 0])), Early(2, (), 2))

    def test_all_runs(self):
        for meter in some_metered(60, **SMALL):
            found = early_most(meter)
            self.assertEqual(found is None, meter.first == 0 and not meter.charged_arrows)
            best = None
            for run in runs_up_to(meter.chart, 4):
                for limit in limits_of(meter, run):
                    _, unused, stopped = one_paced_places(meter, run, limit)
                    if stopped is not None:
                        best = unused if best is None else max(best, unused)
            if found is None:
                self.assertEqual(best, None)
            else:
                self.check(meter, found)
                self.assertEqual(found.unused, best)

    def test_largest(self):
        meter = least_meter(ladder(), (30, 31))
        found = early_most(meter)
        self.assertEqual(found.unused, 15)
        self.check(meter, found)
        dear = Meter(line(16), 10 ** 12, [10 ** 12] * 15)
        self.assertEqual(early_most(dear).unused, 16 * 10 ** 12 - 15 - 1)
        self.check(dear, early_most(dear))


class LagMost(Raises, unittest.TestCase):
    def check(self, meter, most, found):
        self.assertIsInstance(found, Lag)
        self.assertTrue(is_deep_tuple(found.run))
        self.assertEqual(check_run(meter.chart, found.run), found.run)
        check_limit(found.limit)
        places = one_paced_places(meter, found.run, found.limit)[0]
        self.assertEqual(plain_places(meter.chart, found.run, found.limit) - places, found.number)
        self.assertLessEqual(found.number, most)

    def test_example(self):
        for most, number in ((64, 2), (2, 2), (1, 1), (3, 2)):
            found = lag_most(example_meter(), most)
            self.assertEqual(found.number, number)
            self.check(example_meter(), most, found)

    def test_none(self):
        for meter in (Meter.plain(example()), Meter.plain(dense()), Meter(Chart([0], []), 0, [])):
            found = lag_most(meter, 64)
            self.assertEqual(found.number, 0)
            self.check(meter, 64, found)

    def test_most(self):
        # Rings that use nothing: the lag has no end but the most.
        free = Meter(Chart([0], [(0, 0)]), 1, [0])
        for most in (1, 2, 3, 63, 64):
            found = lag_most(free, most)
            self.assertEqual(found.number, most)
            self.check(free, most, found)
        for wrong in WRONG_SPANS:
            self.refuses(BadMost, {"most": wrong}, lag_most, example_meter(), wrong)

    def test_all_runs(self):
        for at, meter in enumerate(some_metered(60, **SMALL)):
            runs = runs_up_to(meter.chart, 6)
            best = max(plain_places(meter.chart, run, limit) - one_paced_places(meter, run, limit)[0]
                       for run in runs for limit in limits_of(meter, run))
            # A run that comes to a charged head passes no more than 3 arrows.
            for most in (1, 2, 3):
                found = lag_most(meter, most)
                self.check(meter, most, found)
                self.assertEqual(found.number, min(most, best))

    def test_largest(self):
        # 2 ** 63 rows of places begin at each place; they cannot be gone through one by one.
        two = Meter(Chart([1, 1], [(0, 1), (0, 1), (1, 0), (1, 0)]), 65, [0, 0, 2, 2])
        found = lag_most(two, 64)
        self.assertEqual(found.number, 64)
        self.check(two, 64, found)
        rich = meter_of(dense(), [200 + cost for cost in dense().costs])
        found = lag_most(rich, 64)
        self.check(rich, 64, found)
        # At first the least cost of one place from each place on, then of ever more places.
        least = list(dense().costs)
        number = 0
        while any(least[place] < 200 + cost for place, cost in enumerate(dense().costs)):
            number += 1
            least = [dense().costs[place] + min(least[(place + 1) % 16], least[(place + 3) % 16]) for place in range(16)]
        self.assertEqual(found.number, number)


class Furthers(Raises, unittest.TestCase):
    def check(self, meter, other, found):
        self.assertIsInstance(found, Further)
        self.assertTrue(is_deep_tuple(found.run))
        self.assertEqual(visits(meter.chart, check_run(meter.chart, found.run))[-1], found.place)
        check_limit(found.limit)
        self.assertGreater(one_paced_places(meter, found.run, found.limit)[0],
                           one_paced_places(other, found.run, found.limit)[0])

    def test_example(self):
        plain, meter = Meter.plain(example()), example_meter()
        found = find_further(plain, meter)
        self.assertEqual(found.place, 0)
        self.check(plain, meter, found)
        self.assertEqual(find_further(meter, plain), None)
        self.assertEqual(find_further(meter, meter), None)

    def test_all_runs(self):
        count = 0
        for source in sources(60):
            meter = metered(source, **SMALL)
            for _ in range(20):
                leads = [max(cost, lead + source.randint(-1, 1))
                         for lead, cost in zip(good_leads(meter), meter.chart.costs)]
                charges = [leads[head] - leads[tail] + meter.chart.costs[tail] for tail, head in meter.chart.arrows]
                if min(charges, default=0) < 0:
                    continue
                other = Meter(meter.chart, leads[0], charges)
                found = find_further(meter, other)
                lower = [place for place, lead in enumerate(good_leads(meter)) if lead < leads[place]]
                if lower:
                    count += 1
                    self.assertEqual(found.place, lower[0])
                    self.check(meter, other, found)
                else:
                    self.assertEqual(found, None)
                    for run in runs_up_to(meter.chart, 3):
                        for limit in {*limits_of(meter, run), *limits_of(other, run)}:
                            self.assertLessEqual(one_paced_places(meter, run, limit)[0],
                                                 one_paced_places(other, run, limit)[0])
                break
        self.assertGreater(count, 20)

    def test_refused(self):
        other = Meter.plain(Chart((2, 3, 4, 2), example().arrows))
        self.refuses(Unlike, {"what": "charts"}, find_further, example_meter(), other)
        self.refuses(NotMetered, {"what": "covered"}, find_further, uncovered(), uneven())
        self.refuses(NotMetered, {"what": "even"}, find_further, example_meter(), uneven())
        self.refuses(NotMetered, {"what": "covered"}, find_further, other, uncovered())
        self.assertEqual(find_further(example_meter(), Meter(example(), 6, [0, 5, 0, 6, 0])), None)


class UntestedMost(unittest.TestCase):
    def check(self, meter, found):
        charged = meter.charged_arrows
        if isinstance(found, Untested):
            self.assertEqual(check_ring(meter.chart, found.ring), found.ring)
            self.assertFalse(set(found.ring) & set(charged))
            return
        self.assertIsInstance(found, Stretch)
        self.assertEqual(check_run(meter.chart, found.run), found.run)
        self.assertFalse(set(found.run[len(found.run) - found.number:]) & set(charged))
        self.assertLessEqual(found.number, len(found.run))

    def test_ordinary(self):
        self.assertEqual(untested_most(example_meter()), Stretch(1, (0,)))
        self.assertEqual(untested_most(Meter.plain(example())), Stretch(0, ()))
        self.assertEqual(untested_most(Meter(line(4), 4, [0, 0, 0])), Stretch(3, (0, 1, 2)))
        self.assertEqual(untested_most(Meter(line(4), 2, [0, 2, 0])).number, 1)
        self.check(Meter(line(4), 1, [3, 0, 0]), untested_most(Meter(line(4), 1, [3, 0, 0])))
        self.assertEqual(untested_most(Meter(line(4), 1, [3, 0, 0])), Stretch(2, (0, 1, 2)))
        self.assertEqual(untested_most(Meter(Chart([0], [(0, 0)]), 3, [0])), Untested((0,)))

    def test_all_runs(self):
        rings = 0
        for meter in some_metered(80, most_places=4, most_arrows=5, most_cost=1):
            found = untested_most(meter)
            self.check(meter, found)
            charged = meter.charged_arrows
            best = 0
            for run in runs_up_to(meter.chart, 7):
                many = 0
                for arrow in run:
                    many = 0 if arrow in charged else many + 1
                    best = max(best, many)
            # Without a ring of uncharged arrows at most 3 of them follow one another.
            self.assertEqual(isinstance(found, Untested), best > 3)
            if isinstance(found, Untested):
                rings += 1
            else:
                self.assertEqual(found.number, best)
        self.assertGreater(rings, 3)

    def test_largest(self):
        meter = least_meter(ladder(), (30, 31))
        found = untested_most(meter)
        self.assertEqual(found.number, 15)
        self.check(meter, found)
        free = Meter(Chart([0] * 16, dense().arrows), 5, [0] * 32)
        self.check(free, untested_most(free))
        self.assertIsInstance(untested_most(free), Untested)


if __name__ == "__main__":
    unittest.main()
