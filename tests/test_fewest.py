"""[4.1] to [4.8], [4.13] and [4.20]: claims, least even lots, the fewest arrows."""

import unittest

from helping import NO_NUMBERS, Raises, all_lots, dense, example, is_deep_tuple, line, loop, place_subsets
from helping import random_chart, sources
from purseahead.charts import Chart
from purseahead.errors import BadMost, TooMany, TooTight
from purseahead.evenness import BadWalk
from purseahead.fewest import Claim, Fewest, check_most, claim_fault, fewest, find_claims, least_lots, needed_arrows
from purseahead.leastmeters import least_even

WRONG_MOSTS = (-1, *[wrong for wrong in NO_NUMBERS if wrong is not None], (5,), 1.5)


def ten():
    """The example with ten arrows."""
    return Chart([2, 3, 4, 1], [*example().arrows, *example().arrows])


def small_charts(count, most_arrows=5):
    for source in sources(count):
        yield random_chart(source, most_places=4, most_arrows=most_arrows, most_cost=3)


def mosts_of(chart):
    """None and every most up to some, from the greatest cost on."""
    return (None, *range(max(chart.costs), max(chart.costs) + 7))


def is_even(chart, lot, most):
    found = least_even(chart, lot)
    return not isinstance(found, BadWalk) and (most is None or max(found.leads) <= most)


def even_lots(chart, most):
    """All even lots by number of arrows, then ascending."""
    lots = sorted(all_lots(chart), key=lambda lot: (len(lot), lot))
    return [lot for lot in lots if is_even(chart, lot, most)]


def least_of_all(lots):
    """The lots in which no other one of them is contained."""
    return [lot for lot in lots if not any(set(other) < set(lot) for other in lots)]


def plain_walks(chart, length):
    """All walks up to that many steps, each as its first place, its last place, its steps and its sum."""
    walks = [(place, place, (), 0) for place in range(len(chart))]
    found = list(walks)
    for _ in range(length):
        longer = []
        for start, at, steps, total in walks:
            for arrow, (tail, head) in enumerate(chart.arrows):
                if tail == at:
                    longer.append((start, head, steps + ((arrow, "forward"),), total - chart.costs[tail]))
                if head == at:
                    longer.append((start, tail, steps + ((arrow, "back"),), total + chart.costs[tail]))
        walks = longer
        found.extend(walks)
    return found


def plain_claims(chart, most, length):
    """The least lots of arrows that a heavy or tall walk of so many steps or fewer goes back along."""
    claims = set()
    for start, at, steps, total in plain_walks(chart, length):
        heavy = steps and start == at and total > 0
        tall = most is not None and chart.costs[start] + total > most
        if heavy or tall:
            claims.add(tuple(sorted({arrow for arrow, sense in steps if sense == "back"})))
    return sorted(least_of_all(claims), key=lambda claim: (len(claim), claim))


class Mosts(Raises, unittest.TestCase):
    def test_taken(self):
        for most in (None, 4, 5, 10 ** 30):
            self.assertEqual(check_most(example(), most), most)
        self.assertEqual(check_most(Chart([0], []), 0), 0)

    def test_refused(self):
        for wrong in WRONG_MOSTS:
            self.refuses(BadMost, {"most": wrong}, check_most, example(), wrong)
        self.refuses(TooTight, {"place": 2}, check_most, example(), 3)
        self.refuses(TooTight, {"place": 1}, check_most, example(), 2)
        self.refuses(TooTight, {"place": 0}, check_most, example(), 1)
        self.refuses(TooTight, {"place": 0}, check_most, loop(), 0)

    def works(self):
        claim = Claim((0, 1), 1, ((0, "back"), (1, "back")))
        return (lambda chart, most: find_claims(chart, most=most), lambda chart, most: fewest(chart, most=most),
                lambda chart, most: least_lots(chart, most=most), lambda chart, most: needed_arrows(chart, most=most),
                lambda chart, most: claim_fault(chart, claim, most=most),
                lambda chart, most: claim_fault(chart, Claim(None, None, None), most=most))

    def test_order(self):
        eleven = Chart([2, 3, 4, 1], [*ten().arrows, (3, 3)])
        for work in self.works():
            for wrong in WRONG_MOSTS:
                self.refuses(BadMost, {"most": wrong}, work, example(), wrong)
                self.refuses(BadMost, {"most": wrong}, work, eleven, wrong)
            self.refuses(TooMany, {"count": 11}, work, eleven, None)
            self.refuses(TooMany, {"count": 11}, work, eleven, 9)
            self.refuses(TooMany, {"count": 11}, work, eleven, 0)
            self.refuses(TooMany, {"count": 32}, work, dense(), None)
            self.refuses(TooTight, {"place": 2}, work, ten(), 3)
            self.refuses(TooTight, {"place": 0}, work, example(), 0)

    def test_just_ten(self):
        self.assertEqual(len(ten().arrows), 10)
        self.assertEqual([claim.arrows for claim in find_claims(ten())],
                         [(0, 1), (0, 6), (1, 5), (2, 3), (2, 8), (3, 7), (5, 6), (7, 8)])
        self.assertEqual(claim_fault(ten(), find_claims(ten())[0]), None)


class Claims(unittest.TestCase):
    def check(self, chart, claims, most):
        for claim in claims:
            self.assertIsInstance(claim, Claim)
            self.assertEqual(claim_fault(chart, claim, most=most), None)
            self.assertTrue(is_deep_tuple(claim.arrows) and is_deep_tuple(claim.steps))
        self.assertIsInstance(claims, tuple)
        return [claim.arrows for claim in claims]

    def test_example(self):
        self.assertEqual(self.check(example(), find_claims(example()), None), [(0, 1), (2, 3)])
        for most, told in ((4, [(0,), (1,), (2,), (3,)]), (5, [(2,), (3,), (0, 1), (1, 4)]),
                           (6, [(0, 1), (0, 3), (1, 2), (2, 3), (3, 4)]), (7, [(0, 1), (0, 3), (1, 2), (2, 3)]),
                           (8, [(0, 1), (0, 3), (1, 2), (2, 3)]), (9, [(0, 1), (2, 3)])):
            self.assertEqual(self.check(example(), find_claims(example(), most=most), most), told, most)

    def test_empty_lot_is_even(self):
        for chart in (line(11), Chart([0], []), Chart([0], [(0, 0)]), Chart([5], [])):
            self.assertEqual(find_claims(chart), ())
            self.assertEqual(list(least_lots(chart)), [()])
            self.assertEqual(fewest(chart), Fewest(0, (), ()))
            self.assertEqual(needed_arrows(chart), ((), tuple(range(len(chart.arrows)))))
        # A tall walk needs a most that is a number.
        self.assertEqual(self.check(line(3), find_claims(line(3), most=3), 3), [])
        self.assertEqual(self.check(line(3), find_claims(line(3), most=2), 2), [(0, 1)])
        self.assertEqual(self.check(line(3), find_claims(line(3), most=1), 1), [(0,), (1,)])

    def test_by_evenness(self):
        for chart in small_charts(60):
            for most in mosts_of(chart):
                claims = self.check(chart, find_claims(chart, most=most), most)
                numbers = set(range(len(chart.arrows)))
                spoiled = [lot for lot in place_subsets(len(chart.arrows))
                           if not is_even(chart, sorted(numbers - set(lot)), most)]
                self.assertEqual(claims, least_of_all(spoiled))

    def test_by_walks(self):
        for chart in small_charts(30, 3):
            for most in mosts_of(chart):
                claims = self.check(chart, find_claims(chart, most=most), most)
                self.assertEqual(claims, plain_claims(chart, most, 5))

    def test_even_lots_meet_all_claims(self):
        for chart in small_charts(30):
            for most in mosts_of(chart):
                claims = [set(claim.arrows) for claim in find_claims(chart, most=most)]
                for lot in all_lots(chart):
                    self.assertEqual(is_even(chart, lot, most), all(claim & set(lot) for claim in claims))

    def test_largest(self):
        # 5 couples of arrows there and back between place 0 and five others: each couple is a claim.
        star = Chart([1] * 6, [(0, place) for place in range(1, 6)] + [(place, 0) for place in range(1, 6)])
        self.assertEqual(self.check(star, find_claims(star), None), [(at, at + 5) for at in range(5)])
        self.assertEqual(len(list(least_lots(star))), 32)
        self.assertEqual(fewest(star), Fewest(5, (0, 1, 2, 3, 4), tuple((at, at + 5) for at in range(5))))
        ring = Chart([10 ** 9] * 10, [(place, (place + 1) % 10) for place in range(10)])
        self.assertEqual(self.check(ring, find_claims(ring), None), [tuple(range(10))])
        self.assertEqual(list(least_lots(ring)), [(arrow,) for arrow in range(10)])
        self.assertEqual(needed_arrows(ring), ((), ()))
        # Five of ten like loops of two arrows each are needed at most; here all claims have two of ten arrows.
        couples = Chart([1, 1], [(0, 1)] * 5 + [(1, 0)] * 5)
        self.assertEqual(len(self.check(couples, find_claims(couples), None)), 25)
        self.assertEqual(list(least_lots(couples)), [(0, 1, 2, 3, 4), (5, 6, 7, 8, 9)])


class JudgingClaims(unittest.TestCase):
    def fault(self, arrows, start, steps, most=None):
        return claim_fault(example(), Claim(arrows, start, steps), most=most)

    def test_right(self):
        self.assertEqual(self.fault((0, 1), 1, ((0, "back"), (1, "back"))), None)
        self.assertEqual(self.fault((0, 1), 0, ((1, "back"), (0, "back")) * 3), None)
        # Not a least claim, but a claim.
        self.assertEqual(self.fault((0, 1, 2, 3), 0, ((1, "back"), (0, "back"), (3, "back"), (2, "back"))), None)
        self.assertEqual(self.fault((2,), 2, ((2, "back"),), 5), None)
        self.assertEqual(self.fault((2,), 2, ((2, "back"), (0, "forward"), (0, "back")), 5), "arrows")
        self.assertEqual(self.fault((0, 2), 2, ((2, "back"), (0, "forward"), (0, "back")), 5), None)

    def test_steps(self):
        right = ((0, "back"), (1, "back"))
        for start in (-1, 4, *NO_NUMBERS):
            self.assertEqual(self.fault((0, 1), start, right), "steps")
            self.assertEqual(self.fault(None, start, None), "steps")
        for steps in (None, 3, list(right), "back", {}, (0, "back"), (None,), ((0, "Back"),), ((5, "back"),),
                      ([0, "back"], [1, "back"]), ((True, "back"),), ((0, "back", 1),), ((0, "back"), (0, "back"))):
            self.assertEqual(self.fault((0, 1), 1, steps), "steps")
            self.assertEqual(self.fault(None, 1, steps), "steps")
        for start in (0, 2, 3):
            self.assertEqual(self.fault((0, 1), start, right), "steps")

    def test_arrows(self):
        for wrong in (None, [0, 1], (1, 0), (0,), (0, 1, 2), (0, 1, 1), (), 1, "01", (0, True), (False, 1), {0: 1}):
            self.assertEqual(self.fault(wrong, 1, ((0, "back"), (1, "back"))), "arrows")
        self.assertEqual(self.fault((0,), 0, ((0, "forward"), (1, "forward"))), "arrows")
        self.assertEqual(self.fault((), 2, ((2, "back"), (3, "back"))), "arrows")

    def test_light(self):
        self.assertEqual(self.fault((), 0, ()), "light")
        self.assertEqual(self.fault((), 2, (), 4), "light")
        self.assertEqual(self.fault((), 0, ((0, "forward"), (1, "forward"))), "light")
        self.assertEqual(self.fault((0,), 1, ((0, "back"), (0, "forward"))), "light")
        # Not closed, so it is no heavy walk, and just as tall as it may be.
        self.assertEqual(self.fault((2,), 2, ((2, "back"),)), "light")
        self.assertEqual(self.fault((2,), 2, ((2, "back"),), 6), "light")
        self.assertEqual(claim_fault(Chart([0], [(0, 0)]), Claim((0,), 0, ((0, "back"),))), "light")
        self.assertEqual(claim_fault(loop(), Claim((0,), 0, ((0, "back"),))), None)


class Lots(unittest.TestCase):
    def test_example(self):
        self.assertEqual(list(least_lots(example())), [(0, 2), (0, 3), (1, 2), (1, 3)])
        self.assertEqual(list(least_lots(example(), most=4)), [(0, 1, 2, 3)])
        self.assertEqual(list(least_lots(example(), most=5)), [(1, 2, 3), (0, 2, 3, 4)])
        self.assertEqual(list(least_lots(example(), most=6)), [(1, 3), (0, 2, 3), (0, 2, 4)])
        self.assertEqual(list(least_lots(example(), most=7)), [(0, 2), (1, 3)])

    def test_all_lots(self):
        for chart in small_charts(60):
            for most in mosts_of(chart):
                found = list(least_lots(chart, most=most))
                self.assertEqual(found, least_of_all(even_lots(chart, most)))
                self.assertTrue(is_deep_tuple(tuple(found)))

    def test_each_is_the_others_least(self):
        for chart in small_charts(30):
            for most in mosts_of(chart):
                lots = list(least_lots(chart, most=most))
                claims = [claim.arrows for claim in find_claims(chart, most=most)]
                subsets = place_subsets(len(chart.arrows))
                meeting = [subset for subset in subsets if all(set(subset) & set(lot) for lot in lots)]
                if claims:
                    self.assertEqual(claims, least_of_all(meeting))
                else:
                    self.assertEqual(lots, [()])


class FewestArrows(unittest.TestCase):
    def test_example(self):
        self.assertEqual(fewest(example()), Fewest(2, (0, 2), ((0, 1), (2, 3))))
        self.assertEqual(fewest(example(), most=6), Fewest(2, (1, 3), ((0, 1), (2, 3))))
        self.assertEqual(fewest(example(), most=5), Fewest(3, (1, 2, 3), ((2,), (3,), (0, 1))))
        self.assertEqual(fewest(example(), most=4), Fewest(4, (0, 1, 2, 3), ((0,), (1,), (2,), (3,))))

    def test_all_lots(self):
        for chart in small_charts(60):
            for most in mosts_of(chart):
                found = fewest(chart, most=most)
                lot = even_lots(chart, most)[0]
                self.assertEqual((found.number, found.lot), (len(lot), lot))
                self.check_floor(chart, found, most)

    def check_floor(self, chart, found, most):
        taken = []
        for claim in find_claims(chart, most=most):
            if not any(set(claim.arrows) & set(other) for other in taken):
                taken.append(claim.arrows)
        self.assertEqual(found.floor, tuple(taken))
        self.assertLessEqual(len(found.floor), found.number)
        self.assertTrue(is_even(chart, sorted(arrow for claim in found.floor for arrow in claim), most))

    def test_needed(self):
        self.assertEqual(needed_arrows(example()), ((), (4,)))
        self.assertEqual(needed_arrows(example(), most=6), ((), ()))
        self.assertEqual(needed_arrows(example(), most=5), ((2, 3), ()))
        self.assertEqual(needed_arrows(example(), most=4), ((0, 1, 2, 3), (4,)))
        self.assertEqual(needed_arrows(loop()), ((0,), ()))
        for chart in small_charts(40):
            for most in mosts_of(chart):
                lots = even_lots(chart, most)
                numbers = range(len(chart.arrows))
                always = tuple(arrow for arrow in numbers if all(arrow in lot for lot in lots))
                never = tuple(arrow for arrow in numbers if not any(arrow in lot for lot in least_of_all(lots)))
                self.assertEqual(needed_arrows(chart, most=most), (always, never))


if __name__ == "__main__":
    unittest.main()
