"""[9.1] to [9.5] and [9.11]: lanes on one purse, deed by deed."""

import random
import unittest

from helping import NO_NUMBERS, NO_SEQUENCES, WRONG_LIMITS, Raises, example, example_meter, some_metered, told, uncovered
from helping import uneven
from purseahead.charts import Chart
from purseahead.covering import even_leads
from purseahead.errors import BadArrow, BadLanes, BadLimit, MeterError, NoLane, NoRoom, NotHere, NotMetered, NotRunning
from purseahead.errors import Refused
from purseahead.lanes import Lanes
from purseahead.meters import Meter

MOST = 10 ** 15


class PlainLanes:
    """Lanes that are kept as the document tells them, one row for each lane."""

    def __init__(self, meters, limit):
        self.rows = [[meter, "fresh", None] for meter in meters]
        self.limit, self.purse, self.used = limit, limit, 0

    def behind(self, lane):
        meter, _, place = self.rows[lane]
        return even_leads(meter)[place] - meter.chart.costs[place]

    def held(self):
        return sum(self.behind(lane) for lane, row in enumerate(self.rows) if row[1] == "running")

    def fault(self, kind, lane, arrow):
        """The error that a deed raises, or None."""
        if type(lane) is not int or not 0 <= lane < len(self.rows):
            return NoLane(lane)
        meter, stand, place = self.rows[lane]
        if stand != ("fresh" if kind == "begin" else "running"):
            return NotRunning(lane, stand)
        if kind == "fork" and len(self.rows) == 6:
            return NoRoom()
        if kind == "take":
            if type(arrow) is not int or not 0 <= arrow < len(meter.charges):
                return BadArrow(arrow)
            if meter.chart.arrows[arrow][0] != place:
                return NotHere(arrow)
        charge = self.price(kind, lane, arrow)
        return Refused(lane, charge, self.purse) if charge > self.purse else None

    def price(self, kind, lane, arrow):
        meter = self.rows[lane][0]
        if kind in ("fork", "close"):
            return self.behind(lane) if kind == "fork" else -self.behind(lane)
        return meter.first if kind == "begin" else meter.charges[arrow]

    def do(self, kind, lane, arrow):
        """Do a deed that is let; return what it returns."""
        charge, row = self.price(kind, lane, arrow), self.rows[lane]
        self.purse -= charge
        if kind == "close":
            row[1] = "closed"
            return -charge
        if kind == "fork":
            self.rows.append(list(row))
            return len(self.rows) - 1
        row[1], row[2] = "running", 0 if kind == "begin" else row[0].chart.arrows[arrow][1]
        self.used += row[0].chart.costs[row[2]]
        return row[2]


def deed_of(lanes, kind, lane, arrow):
    return getattr(lanes, kind)(lane, arrow) if kind == "take" else getattr(lanes, kind)(lane)


def shown(lanes):
    """All that is promised of lanes."""
    return {name: getattr(lanes, name) for name in
            ("meters", "limit", "purse", "used", "unused", "stands", "places", "held_now")}


class Example(Raises, unittest.TestCase):
    def test_told(self):
        lanes = Lanes([example_meter()] * 2, 14)
        self.assertEqual((lanes.begin(0), lanes.begin(1)), (0, 0))
        self.assertEqual((lanes.purse, lanes.used, lanes.held_now, lanes.unused), (2, 4, 8, 10))
        self.assertEqual(lanes.take(0, 2), 2)
        self.assertEqual((lanes.purse, lanes.used, lanes.held_now, lanes.unused), (2, 8, 4, 6))
        self.refuses(Refused, {"lane": 0, "charge": 6, "purse": 2}, lanes.take, 0, 3)
        self.assertEqual(lanes.close(1), 4)
        self.assertEqual(lanes.take(0, 3), 0)
        self.assertEqual((lanes.purse, lanes.stands, lanes.places), (0, ("running", "closed"), (0, 0)))


class Making(Raises, unittest.TestCase):
    def test_kept(self):
        meters = [example_meter(), Meter(Chart([1], []), 3, [])]
        lanes = Lanes(meters, 20)
        meters.pop()
        self.assertEqual(shown(lanes), {
            "meters": (example_meter(), Meter(Chart([1], []), 3, [])), "limit": 20, "purse": 20, "used": 0, "unused": 20,
            "stands": ("fresh", "fresh"), "places": (None, None), "held_now": 0})
        self.assertTrue(all(isinstance(row, tuple) for row in (lanes.meters, lanes.stands, lanes.places)))
        for number in (1, 2, 3):
            self.assertEqual(Lanes((example_meter(),) * number, 0).stands, ("fresh",) * number)
        self.assertEqual(Lanes([example_meter()], MOST).purse, MOST)

    def test_refused(self):
        for wrong in (*NO_SEQUENCES, (), [example_meter()] * 4, [None] * 4):
            self.refuses(BadLanes, {"what": "meters", "index": 0}, Lanes, wrong, None)
        for wrong in (None, 7, example(), [example_meter()], "meter", vars(example_meter())):
            self.refuses(BadLanes, {"what": "meter", "index": 0}, Lanes, [wrong], None)
            self.refuses(BadLanes, {"what": "meter", "index": 2}, Lanes, (uneven(), example_meter(), wrong), None)
        self.refuses(NotMetered, {"what": "even"}, Lanes, [example_meter(), uneven(), uncovered()], None)
        self.refuses(NotMetered, {"what": "covered"}, Lanes, [example_meter(), uncovered(), uneven()], None)
        for wrong in WRONG_LIMITS:
            self.refuses(BadLimit, {"limit": wrong}, Lanes, [example_meter()], wrong)


class Deeds(Raises, unittest.TestCase):
    def test_any_deeds(self):
        """Random deeds, wrong ones among them, beside lanes that are kept plainly."""
        seen = {}
        meters = some_metered(60, most_places=4, most_arrows=6, most_cost=3)
        for at in range(300):
            source = random.Random(at)
            grounds = [source.choice(meters) for _ in range(source.randint(1, 3))]
            limit = source.randint(0, 40)
            lanes, plain = Lanes(grounds, limit), PlainLanes(grounds, limit)
            for _ in range(30):
                deed = self.any_deed(source, plain)
                seen[self.check(lanes, plain, *deed)] = 1
        self.assertEqual(set(seen), {NoLane, NotRunning, NoRoom, BadArrow, NotHere, Refused, None})

    def any_deed(self, source, plain):
        kind = source.choice(("begin", "begin", "take", "take", "take", "take", "fork", "close"))
        lane = source.choice((*range(len(plain.rows)), *range(len(plain.rows)), source.choice((-1, 6, *NO_NUMBERS))))
        arrow = source.choice((*range(4), source.choice((-1, 99, *NO_NUMBERS))))
        if source.random() < 0.7 and type(lane) is int and 0 <= lane < len(plain.rows):
            meter, _, place = plain.rows[lane]
            arrow = source.choice([*meter.chart.outs(place or 0), arrow])
        return kind, lane, arrow

    def check(self, lanes, plain, kind, lane, arrow):
        fault = plain.fault(kind, lane, arrow)
        before = dict(vars(lanes))
        if fault is None:
            self.assertEqual(deed_of(lanes, kind, lane, arrow), plain.do(kind, lane, arrow))
        else:
            with self.assertRaises(MeterError) as caught:
                deed_of(lanes, kind, lane, arrow)
            self.assertEqual(told(caught.exception), told(fault))
            self.assertEqual(vars(lanes), before)
        self.assertEqual(shown(lanes), {
            "meters": before["meters"], "limit": plain.limit, "purse": plain.purse, "used": plain.used,
            "unused": plain.limit - plain.used, "stands": tuple(row[1] for row in plain.rows),
            "places": tuple(row[2] for row in plain.rows), "held_now": plain.held()})
        self.assertEqual(lanes.unused, lanes.purse + lanes.held_now)
        self.assertLessEqual(lanes.used, lanes.limit)
        self.assertTrue(isinstance(lanes.stands, tuple) and isinstance(lanes.places, tuple))
        return type(fault) if fault else None

    def test_order_of_errors(self):
        lanes = Lanes([example_meter()], 5)
        for deed in (lanes.begin, lanes.fork, lanes.close, lambda lane: lanes.take(lane, None)):
            for wrong in (-1, 1, *NO_NUMBERS):
                self.refuses(NoLane, {"lane": wrong}, deed, wrong)
        for deed in (lanes.fork, lanes.close, lambda lane: lanes.take(lane, 99)):
            self.refuses(NotRunning, {"lane": 0, "stand": "fresh"}, deed, 0)
        self.refuses(Refused, {"lane": 0, "charge": 6, "purse": 5}, lanes.begin, 0)
        lanes = Lanes([example_meter()], 6)
        lanes.begin(0)
        self.refuses(NotRunning, {"lane": 0, "stand": "running"}, lanes.begin, 0)
        for wrong in (-1, 5, *NO_NUMBERS):
            self.refuses(BadArrow, {"arrow": wrong}, lanes.take, 0, wrong)
        # Arrow 3 charges 6, but leaves another place.
        self.refuses(NotHere, {"arrow": 3}, lanes.take, 0, 3)
        self.refuses(Refused, {"lane": 0, "charge": 4, "purse": 0}, lanes.fork, 0)
        lanes.close(0)
        for deed in (lanes.begin, lanes.fork, lanes.close, lambda lane: lanes.take(lane, 99)):
            self.refuses(NotRunning, {"lane": 0, "stand": "closed"}, deed, 0)

    def test_room(self):
        for number in (1, 3):
            lanes = Lanes([example_meter()] * number, 100)
            lanes.begin(0)
            for lane in range(number, 6):
                self.assertEqual(lanes.fork(0), lane)
            before = dict(vars(lanes))
            self.refuses(NoRoom, {}, lanes.fork, 5)
            # Closed lanes count, too; and there is no room even if the purse is empty.
            lanes.close(5)
            self.refuses(NoRoom, {}, lanes.fork, 0)
            self.assertEqual(len(lanes.stands), 6)
            self.assertEqual(before["places"], lanes.places)
        lanes = Lanes([Meter(Chart([0], []), 1, [])], 6)
        lanes.begin(0)
        for _ in range(5):
            lanes.fork(0)
        self.assertEqual(lanes.purse, 0)
        self.refuses(NoRoom, {}, lanes.fork, 0)
        self.refuses(NotRunning, {"lane": 5, "stand": "closed"}, self.closed_fork(lanes, 5), 5)

    def closed_fork(self, lanes, lane):
        lanes.close(lane)
        return lanes.fork

    def test_equal_to_the_purse_and_nothing(self):
        lanes = Lanes([Meter(Chart([0, 0], [(0, 1), (1, 0)]), 0, [0, 0])] * 2, 0)
        lanes.begin(0)
        self.assertEqual((lanes.take(0, 0), lanes.fork(0), lanes.close(0)), (1, 2, 0))
        lanes.begin(1)
        self.assertEqual((lanes.stands, lanes.places, lanes.unused), (("closed", "running", "running"), (1, 0, 1), 0))

    def test_refused_deed_may_be_tried_again(self):
        lanes = Lanes([example_meter()] * 3, 12)
        lanes.begin(2)
        lanes.begin(0)
        for _ in range(3):
            self.refuses(Refused, {"lane": 1, "charge": 6, "purse": 0}, lanes.begin, 1)
        lanes.close(2)
        self.refuses(Refused, {"lane": 1, "charge": 6, "purse": 4}, lanes.begin, 1)
        lanes.close(0)
        self.assertEqual(lanes.begin(1), 0)
        self.assertEqual((lanes.purse, lanes.used, lanes.stands), (2, 6, ("closed", "running", "closed")))

    def test_forks_use_their_own_meters(self):
        other = Meter(Chart([7, 1], [(0, 1)]), 7, [2])
        lanes = Lanes([example_meter(), other], 50)
        lanes.begin(1)
        lanes.begin(0)
        lanes.take(0, 0)
        self.assertEqual((lanes.fork(1), lanes.fork(0)), (2, 3))
        self.assertEqual(lanes.places, (1, 0, 0, 1))
        self.assertEqual(lanes.purse, 50 - 7 - 6 - 0 - 1)
        self.assertEqual((lanes.take(2, 0), lanes.take(3, 1)), (1, 0))
        self.refuses(NotHere, {"arrow": 0}, lanes.take, 2, 0)
        self.refuses(BadArrow, {"arrow": 1}, lanes.take, 2, 1)
        self.assertEqual((lanes.used, lanes.held_now), (7 + 2 + 3 + 1 + 2, 0 + 1 + 1 + 4))


if __name__ == "__main__":
    unittest.main()
