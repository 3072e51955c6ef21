"""[5.8] to [5.14]: gates, the two-paced code, the Purse."""

import unittest
from itertools import product

from helping import BAD_RUNS, NO_NUMBERS, NO_SEQUENCES, SMALL, WRONG_LIMITS, WRONG_SPANS, Raises, dense, example
from helping import example_meter, is_deep_tuple, ladder, least_metered, limits_of, line, loop, plain_places
from helping import runs_up_to, some_metered, sources, uncovered, uneven, visits
from purseahead.charts import Chart
from purseahead.errors import BadGates, BadLimit, BadMost, BadRun, BadStep, NotMetered
from purseahead.leastmeters import least_meter, meter_of
from purseahead.meters import Meter
from purseahead.paces import Paced, Parting, Purse, SlowGo, check_gates, find_parting, least_gates, slow_most
from purseahead.paces import tests_saved, two_paced
from purseahead.runs import check_run, used_by
from purseahead.stops import check_limit, good_leads

LEADS = (6, 4, 4, 4)
NEEDS = (6, 3, 4, 1)


def plain_paced(meter, run, limit, gates):
    """The two-paced code, word by word: (places, unused, paces, purse tests, slow tests)."""
    chart, leads = meter.chart, good_leads(meter)
    paces, used = [], 0
    purse_tests = slow_tests = 0
    purse, rest = None, limit
    for number, place in enumerate(visits(chart, run)):
        charge = meter.charges[run[number - 1]] if number else 0
        fast = purse is not None
        if fast and charge > 0:
            purse_tests += 1
            if purse >= charge:
                purse -= charge
            else:
                tail = chart.arrows[run[number - 1]][0]
                rest = purse + leads[tail] - chart.costs[tail]
                purse, fast = None, False
        if not fast:
            slow_tests += 1
            if rest >= gates[place]:
                purse = rest - leads[place]
            elif rest >= chart.costs[place]:
                rest -= chart.costs[place]
            else:
                break
        used += chart.costs[place]
        paces.append("slow" if purse is None else "fast")
    return Paced(len(paces), limit - used, tuple(paces), purse_tests, slow_tests)


def plain_need(meter, place, length):
    """The most that rows of up to that many uncharged arrows use from a place on."""
    chart = meter.chart
    best, ways = 0, [(place, chart.costs[place])]
    for _ in range(length + 1):
        best = max([best, *[used for _, used in ways]])
        ways = [(head, used + chart.costs[head]) for at, used in ways for arrow, (tail, head) in enumerate(chart.arrows)
                if tail == at and meter.charges[arrow] == 0]
    return best


def some_gates(source, meter):
    """Some rows of gates, right and wrong ones, as a number of places of the leads or below."""
    leads = good_leads(meter)
    yield None
    yield least_gates(meter)
    for _ in range(3):
        yield [source.randint(0, lead) for lead in leads]
    yield [source.randint(need, lead) for need, lead in zip(least_gates(meter), leads)]


class Gates(Raises, unittest.TestCase):
    def test_taken(self):
        self.assertEqual(check_gates(example_meter(), None), LEADS)
        for gates in (LEADS, NEEDS, (0, 0, 0, 0), [6, 0, 4, 1]):
            self.assertEqual(check_gates(example_meter(), gates), tuple(gates))
            self.assertIsInstance(check_gates(example_meter(), gates), tuple)

    def works(self):
        return (check_gates, find_parting, lambda meter, gates: two_paced(meter, (0,), 5, gates=gates),
                lambda meter, gates: tests_saved(meter, (0,), 5, gates=gates),
                lambda meter, gates: slow_most(meter, gates, 0), lambda meter, gates: Purse(meter, 9, gates),
                lambda meter, gates: Purse(meter, 9, gates=gates))

    def test_refused(self):
        for work in self.works():
            for wrong in [each for each in NO_SEQUENCES if each is not None] + [(), (6, 4, 4), [6, 4, 4, 4, 4]]:
                self.refuses(BadGates, {"index": 0}, work, example_meter(), wrong)
            for place, lead in enumerate(LEADS):
                for wrong in (-1, lead + 1, *NO_NUMBERS):
                    gates = [0, 0, 0, 0]
                    gates[place:] = [wrong] * (4 - place)
                    self.refuses(BadGates, {"index": place}, work, example_meter(), gates)
            self.refuses(NotMetered, {"what": "even"}, work, uneven(), None)
            self.refuses(NotMetered, {"what": "covered"}, work, uncovered(), 7)

    def test_order(self):
        for work in (two_paced, tests_saved):
            asked = lambda meter, run, limit, gates, work=work: work(meter, run, limit, gates=gates)
            self.refuses(NotMetered, {"what": "covered"}, asked, uncovered(), (9,), -1, ())
            for index, wrong in BAD_RUNS:
                self.refuses(BadRun, {"index": index}, asked, example_meter(), wrong, -1, ())
            for wrong in WRONG_LIMITS:
                self.refuses(BadLimit, {"limit": wrong}, asked, example_meter(), (0,), wrong, ())
            self.refuses(BadGates, {"index": 0}, asked, example_meter(), (0,), 5, ())
        for wrong in WRONG_LIMITS:
            self.refuses(BadLimit, {"limit": wrong}, Purse, example_meter(), wrong, ())
            self.refuses(NotMetered, {"what": "even"}, Purse, uneven(), wrong, ())
        for wrong in WRONG_SPANS:
            self.refuses(BadMost, {"most": wrong}, slow_most, example_meter(), None, wrong)
        self.refuses(NotMetered, {"what": "even"}, least_gates, uneven())
        self.refuses(NotMetered, {"what": "covered"}, least_gates, uncovered())
        self.refuses(NotMetered, {"what": "even"}, least_gates, example_meter(0, (0, 9, 0, 0, 0)))


class TwoPaced(unittest.TestCase):
    def test_example(self):
        told = Paced(3, 2, ("fast", "fast", "slow"), 1, 3)
        self.assertEqual(two_paced(example_meter(), (0, 1, 2), 9), told)
        self.assertEqual(two_paced(example_meter(), [0, 1, 2], 9, gates=None), told)
        self.assertEqual(two_paced(example_meter(), [0, 1, 2], 9, gates=list(LEADS)), told)
        self.assertEqual(two_paced(example_meter(), (0, 1, 4), 9, gates=NEEDS),
                         Paced(4, 1, ("fast", "fast", "slow", "fast"), 1, 3))
        self.assertEqual(two_paced(example_meter(), (), 1), Paced(0, 1, (), 0, 1))
        self.assertEqual(two_paced(example_meter(), (0,), 2), Paced(1, 0, ("slow",), 0, 2))
        self.assertEqual(two_paced(example_meter(), (), 10 ** 15), Paced(1, 10 ** 15 - 2, ("fast",), 0, 1))
        self.assertEqual(two_paced(example_meter(), (0,), 3, gates=(0, 0, 0, 0)), Paced(2, -2, ("fast", "fast"), 0, 1))
        self.assertTrue(is_deep_tuple(two_paced(example_meter(), [0, 1, 2], 9).paces))

    def test_all_runs(self):
        below = 0
        for source, meter in zip(sources(60), some_metered(60, **SMALL)):
            runs = runs_up_to(meter.chart, 4)
            for gates in some_gates(source, meter):
                fitting = good_leads(meter) if gates is None else gates
                for run in runs:
                    for limit in limits_of(meter, run):
                        found = two_paced(meter, run, limit, gates=gates)
                        self.assertEqual(found, plain_paced(meter, run, limit, fitting))
                        below += found.unused < 0
        self.assertGreater(below, 50)

    def test_leads_as_gates_stay_slow(self):
        for meter in some_metered(40, **SMALL):
            for run in runs_up_to(meter.chart, 4):
                for limit in limits_of(meter, run):
                    paces = two_paced(meter, run, limit).paces
                    self.assertEqual(list(paces), sorted(paces))

    def test_right_gates_stop_as_plain_counting(self):
        for source, meter in zip(sources(40), some_metered(40, **SMALL)):
            needs = least_gates(meter)
            higher = [source.randint(need, lead) for need, lead in zip(needs, good_leads(meter))]
            for run in runs_up_to(meter.chart, 4):
                for limit in limits_of(meter, run):
                    told = plain_places(meter.chart, run, limit)
                    found = [two_paced(meter, run, limit, gates=gates) for gates in (needs, higher, None)]
                    for each in found:
                        self.assertEqual(each.places, told)
                        self.assertGreaterEqual(each.unused, 0)
                    # The lower of two rows of right gates is slow only where the higher one is.
                    for low, high in zip(found, found[1:]):
                        self.assertTrue(all(one == "fast" or two == "slow" for one, two in zip(low.paces, high.paces)))

    def test_tests_saved(self):
        self.assertEqual(tests_saved(example_meter(), (0, 1, 2), 9), 0)
        self.assertEqual(tests_saved(example_meter(), [0, 1, 2], 11), 2)
        self.assertEqual(tests_saved(example_meter(), (0, 1, 4), 9, gates=NEEDS), 0)
        self.assertEqual(tests_saved(example_meter(), (0, 1, 4), 12, gates=list(NEEDS)), 2)
        self.assertEqual(tests_saved(example_meter(), (), 0), 0)
        # A charge and then the same place by slow pace cost a test more than plain counting.
        self.assertEqual(tests_saved(example_meter(), (0, 1), 9), 0)
        for source, meter in zip(sources(30), some_metered(30, **SMALL)):
            for gates in some_gates(source, meter):
                fitting = good_leads(meter) if gates is None else gates
                for run in runs_up_to(meter.chart, 3):
                    for limit in limits_of(meter, run):
                        places = plain_places(meter.chart, run, limit)
                        paced = plain_paced(meter, run, limit, fitting)
                        told = places + (places <= len(run)) - paced.purse_tests - paced.slow_tests
                        self.assertEqual(tests_saved(meter, run, limit, gates=gates), told)

    def test_largest(self):
        meter = least_meter(ladder(), (30, 31))
        run = tuple(range(0, 32, 2)) * 25
        self.assertEqual(len(run), 400)
        self.assertEqual(two_paced(meter, run, 401), plain_paced(meter, run, 401, good_leads(meter)))
        self.assertEqual(two_paced(meter, run, 10 ** 15), Paced(401, 10 ** 15 - 401, ("fast",) * 401, 25, 1))
        self.assertEqual(tests_saved(meter, run, 10 ** 15), 401 - 26)


class Partings(unittest.TestCase):
    def check(self, meter, gates, found):
        self.assertIsInstance(found, Parting)
        self.assertTrue(is_deep_tuple(found.run))
        self.assertEqual(check_run(meter.chart, found.run), found.run)
        check_limit(found.limit)
        self.assertGreater(plain_paced(meter, found.run, found.limit, gates).places,
                           plain_places(meter.chart, found.run, found.limit))

    def test_example(self):
        self.assertEqual(least_gates(example_meter()), NEEDS)
        self.assertEqual(find_parting(example_meter(), NEEDS), None)
        self.assertEqual(find_parting(example_meter(), None), None)
        self.assertEqual(find_parting(example_meter(), [6, 3, 4, 4]), None)
        for place, need in enumerate(NEEDS):
            for gate in range(need):
                gates = list(NEEDS)
                gates[place] = gate
                found = find_parting(example_meter(), gates)
                self.assertEqual(found.place, place)
                self.check(example_meter(), gates, found)

    def test_needs(self):
        for meter in some_metered(80, most_places=4, most_arrows=5, most_cost=3):
            told = tuple(plain_need(meter, place, len(meter.chart)) for place in range(len(meter.chart)))
            self.assertEqual(least_gates(meter), told)
            self.assertTrue(all(need <= lead for need, lead in zip(told, good_leads(meter))))
        self.assertEqual(least_gates(Meter(Chart([0], [(0, 0)]), 7, [0])), (0,))

    def test_all_gates(self):
        wrong = 0
        for source in sources(25):
            meter = least_metered(source, most_places=3, most_arrows=4, most_cost=2)
            runs = runs_up_to(meter.chart, 4)
            for gates in product(*[range(lead + 1) for lead in good_leads(meter)]):
                found = find_parting(meter, gates)
                low = [place for place, need in enumerate(least_gates(meter)) if gates[place] < need]
                if low:
                    wrong += 1
                    self.assertEqual(found.place, low[0])
                    self.check(meter, gates, found)
                else:
                    self.assertEqual(found, None)
                    for run in runs[::3]:
                        for limit in limits_of(meter, run)[::2]:
                            self.assertEqual(two_paced(meter, run, limit, gates=gates).places,
                                             plain_places(meter.chart, run, limit))
        self.assertGreater(wrong, 100)

    def test_largest(self):
        meter = least_meter(ladder(), (30, 31))
        self.assertEqual(least_gates(meter), tuple(range(16, 0, -1)))
        for place in (0, 7, 15):
            gates = list(range(16, 0, -1))
            gates[place] -= 1
            found = find_parting(meter, gates)
            self.assertEqual(found.place, place)
            self.check(meter, gates, found)
        dear = Meter(Chart([10 ** 9] * 16, line(16).arrows), 16 * 10 ** 9, [0] * 15)
        self.check(dear, [0] * 16, find_parting(dear, [0] * 16))


class SlowMost(unittest.TestCase):
    def check(self, meter, gates, most, found):
        self.assertIsInstance(found, SlowGo)
        self.assertTrue(is_deep_tuple(found.run))
        self.assertEqual(check_run(meter.chart, found.run), found.run)
        check_limit(found.limit)
        fitting = good_leads(meter) if gates is None else gates
        paced = plain_paced(meter, found.run, found.limit, fitting)
        self.assertEqual(paced.places, len(found.run) + 1)
        self.assertEqual(set(paced.paces[len(paced.paces) - found.number:]) - {"slow"}, set())
        self.assertLessEqual(found.number, min(most, paced.places))

    def test_example(self):
        for gates, most, number in ((None, 64, 2), (LEADS, 2, 2), (None, 1, 1), (list(NEEDS), 64, 1), (NEEDS, 1, 1),
                                    ((0, 0, 0, 0), 64, 0)):
            found = slow_most(example_meter(), gates, most)
            self.assertEqual(found.number, number)
            self.check(example_meter(), gates, most, found)

    def test_most(self):
        free = Meter(Chart([0], [(0, 0)]), 1, [0])
        for most in (1, 2, 63, 64):
            found = slow_most(free, None, most)
            self.assertEqual(found.number, most)
            self.check(free, None, most, found)
        self.assertEqual(slow_most(free, (0,), 64).number, 0)
        # Where every lead is its cost, no place is used at slow pace.
        for meter in (Meter.plain(example()), Meter.plain(loop()), Meter(Chart([0], []), 0, [])):
            found = slow_most(meter, None, 64)
            self.assertEqual(found.number, 0)
            self.check(meter, None, 64, found)

    def test_all_runs(self):
        for source, meter in zip(sources(16), some_metered(16, **SMALL)):
            runs = runs_up_to(meter.chart, 5)
            for gates in some_gates(source, meter):
                fitting = good_leads(meter) if gates is None else gates
                best = 0
                for run in runs:
                    for limit in {used_by(meter.chart, run), *limits_of(meter, run)}:
                        many = 0
                        for pace in plain_paced(meter, run, limit, fitting).paces:
                            many = many + 1 if pace == "slow" else 0
                            best = max(best, many)
                # A run that comes to a charged head passes no more than 3 arrows.
                for most in (1, 2, 3):
                    found = slow_most(meter, gates, most)
                    self.check(meter, gates, most, found)
                    self.assertEqual(found.number, min(most, best))

    def test_largest(self):
        two = Meter(Chart([1, 1], [(0, 1), (0, 1), (1, 0), (1, 0)]), 65, [0, 0, 2, 2])
        found = slow_most(two, None, 64)
        self.assertEqual(found.number, 64)
        self.check(two, None, 64, found)
        rich = meter_of(dense(), [200 + cost for cost in dense().costs])
        found = slow_most(rich, None, 64)
        self.assertGreater(found.number, 16)
        self.check(rich, None, 64, found)


class Purses(Raises, unittest.TestCase):
    def stand(self, purse):
        return (purse.pace, purse.places, purse.place, purse.purse_tests, purse.slow_tests, purse.unused_now)

    def test_example(self):
        purse = Purse(example_meter(), 9)
        self.assertEqual(self.stand(purse), ("fast", 1, 0, 0, 1, 7))
        self.assertEqual(purse.take(0), "fast")
        self.assertEqual(self.stand(purse), ("fast", 2, 1, 0, 1, 4))
        self.assertEqual(purse.take(1), "slow")
        self.assertEqual(self.stand(purse), ("slow", 3, 0, 1, 2, 2))
        self.assertEqual(purse.take(2), "stopped")
        self.assertEqual(self.stand(purse), ("stopped", 3, 0, 1, 3, 2))
        self.assertEqual(purse.fill(1), "slow")
        self.assertEqual(self.stand(purse), ("slow", 3, 0, 1, 3, 3))
        self.assertEqual(purse.take(2), "stopped")
        self.assertEqual(purse.fill(1), "slow")
        self.assertEqual(purse.take(2), "fast")
        self.assertEqual(self.stand(purse), ("fast", 4, 2, 1, 5, 0))

    def test_nothing_used_yet(self):
        purse = Purse(example_meter(), 0, NEEDS)
        self.assertEqual(self.stand(purse), ("stopped", 0, 0, 0, 1, 0))
        self.refuses(BadStep, {"arrow": 0}, purse.take, 0)
        self.assertEqual(purse.fill(1), "stopped")
        self.assertEqual(self.stand(purse), ("stopped", 0, 0, 0, 2, 1))
        self.assertEqual(purse.fill(0), "stopped")
        self.assertEqual(purse.fill(1), "slow")
        self.assertEqual(self.stand(purse), ("slow", 1, 0, 0, 4, 0))
        self.assertEqual(purse.fill(10 ** 15), "slow")
        self.assertEqual(purse.fill(10 ** 15), "slow")
        self.assertEqual(self.stand(purse), ("slow", 1, 0, 0, 4, 2 * 10 ** 15))
        self.assertEqual(purse.take(0), "fast")

    def test_filled_at_fast_pace(self):
        purse = Purse(example_meter(), 6)
        self.assertEqual(purse.fill(5), "fast")
        self.assertEqual(self.stand(purse), ("fast", 1, 0, 0, 1, 9))
        self.assertEqual((purse.take(0), purse.take(1)), ("fast", "fast"))
        self.assertEqual(self.stand(purse), ("fast", 3, 0, 1, 1, 4))

    def test_refused(self):
        for purse in (Purse(example_meter(), 9), Purse(example_meter(), 1), Purse(example_meter(), 2)):
            before = self.stand(purse)
            for wrong in (-1, 1, 3, 5, *NO_NUMBERS):
                self.refuses(BadStep, {"arrow": wrong}, purse.take, wrong)
            for wrong in WRONG_LIMITS:
                self.refuses(BadLimit, {"limit": wrong}, purse.fill, wrong)
            self.assertEqual(self.stand(purse), before)
        # Once stopped, every arrow is refused, also those that leave the place.
        purse = Purse(example_meter(), 2)
        self.assertEqual(purse.take(0), "stopped")
        for arrow in (0, 2, 4, 1, None):
            self.refuses(BadStep, {"arrow": arrow}, purse.take, arrow)
        self.assertEqual(self.stand(purse), ("stopped", 1, 0, 0, 2, 0))

    def test_goes_as_the_code(self):
        for source, meter in zip(sources(40), some_metered(40, **SMALL)):
            for gates in some_gates(source, meter):
                fitting = good_leads(meter) if gates is None else gates
                for run in runs_up_to(meter.chart, 3):
                    for limit in limits_of(meter, run):
                        self.check_steps(meter, run, limit, gates, fitting)

    def check_steps(self, meter, run, limit, gates, fitting):
        purse = Purse(meter, limit, gates)
        for many in range(len(run) + 1):
            told = plain_paced(meter, run[:many], limit, fitting)
            paces = (*told.paces, "stopped")
            place = visits(meter.chart, run)[max(told.places - 1, 0)]
            self.assertEqual(self.stand(purse), (paces[many], told.places, place, told.purse_tests, told.slow_tests,
                                                 told.unused))
            if purse.pace == "stopped":
                break
            if many < len(run):
                self.assertEqual(purse.take(run[many]), (*plain_paced(meter, run[:many + 1], limit, fitting).paces,
                                                         "stopped")[many + 1])

    def test_uses_what_the_limit_lets(self):
        # With right gates, also when it is filled on the way: a place is used exactly if the limit allows it then.
        stops = 0
        for source, meter in zip(sources(120), some_metered(120, **SMALL)):
            needs, leads = least_gates(meter), good_leads(meter)
            gates = [source.randint(need, lead) for need, lead in zip(needs, leads)]
            limit = source.randint(0, 12)
            purse = Purse(meter, limit, gates)
            used = meter.chart.costs[0] if purse.places else 0
            for _ in range(25):
                self.assertEqual(purse.places > 0, used > 0 or meter.chart.costs[0] <= limit)
                self.assertEqual(purse.unused_now, limit - used)
                outs = meter.chart.outs(purse.place)
                if purse.pace == "stopped" or not outs or source.random() < 0.2:
                    limit, used = self.fill_some(source, meter, purse, limit, used)
                    continue
                arrow = source.choice(outs)
                cost = meter.chart.costs[meter.chart.arrows[arrow][1]]
                places = purse.places
                purse.take(arrow)
                self.assertEqual(purse.places - places, int(used + cost <= limit))
                used += cost if purse.places > places else 0
                stops += purse.pace == "stopped"
        self.assertGreater(stops, 100)

    def fill_some(self, source, meter, purse, limit, used):
        amount = source.randint(0, 4)
        before, pace = purse.places, purse.pace
        found = purse.fill(amount)
        self.assertEqual(found, purse.pace)
        if before:
            self.assertEqual(found, "slow" if pace == "stopped" else pace)
        elif purse.places:
            used = meter.chart.costs[0]
        return limit + amount, used

    def test_keeps_copies(self):
        gates = list(NEEDS)
        purse = Purse(example_meter(), 9, gates)
        gates[0] = 0
        told = [purse.take(arrow) for arrow in (0, 1)]
        other = Purse(example_meter(), 9, NEEDS)
        self.assertEqual(told, [other.take(arrow) for arrow in (0, 1)])
        self.assertEqual(self.stand(purse), self.stand(other))
        self.assertEqual(gates, [0, 3, 4, 1])

    def test_long_way(self):
        # Each place costs 1, so each of the 10000 arrows that is refused is one that the limit does not pay.
        limit, refused = 1000, 0
        purse = Purse(least_meter(ladder(), (30, 31)), limit)
        for at in range(10000):
            if purse.take(2 * purse.place + at % 2) == "stopped":
                refused += 1
                self.assertEqual((purse.places, purse.unused_now), (limit, 0))
                purse.fill(100)
                limit += 100
        self.assertEqual(purse.places, 10001 - refused)
        self.assertEqual(purse.unused_now, limit - purse.places)
        self.assertGreater(refused, 80)


if __name__ == "__main__":
    unittest.main()
