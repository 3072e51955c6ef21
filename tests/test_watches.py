"""[10.4]: a watch that reads a log entry by entry."""

import random
import unittest

from helping import NO_NUMBERS, Raises, example_meter, loop, random_meter, sources
from purseahead.errors import BadLog, MeterError, Misfit, NothingSeen
from purseahead.logs import find_places
from purseahead.meters import Meter
from purseahead.watches import Watch

MOST = 10 ** 12


def shown(watch):
    return watch.meter, watch.log, watch.places


class Watches(Raises, unittest.TestCase):
    def test_ordinary(self):
        watch = Watch(example_meter())
        self.assertEqual(shown(watch), (example_meter(), (), ()))
        self.assertEqual(watch.see(6), (0, 1, 2, 3))
        self.assertEqual(watch.see(5), (0, 1, 2, 3))
        self.assertEqual(shown(watch), (example_meter(), (6, 5), (0, 1, 2, 3)))
        self.refuses(Misfit, {"index": 2}, watch.see, 7)
        self.assertEqual(shown(watch), (example_meter(), (6, 5), (0, 1, 2, 3)))
        self.assertEqual(watch.see(6), (0, 1, 2, 3))
        self.assertEqual([watch.take_back() for _ in range(3)], [6, 5, 6])
        self.assertEqual(shown(watch), (example_meter(), (), ()))
        self.refuses(NothingSeen, {}, watch.take_back)
        self.assertEqual(watch.see(6), (0, 1, 2, 3))

    def test_any_deeds(self):
        """Random entries beside a log that is kept plainly."""
        seen = {}
        for at, source in enumerate(sources(120)):
            meter = random_meter(source, most_charge=2, most_places=4, most_arrows=6)
            watch, log = Watch(meter), ()
            deeds = random.Random(at)
            for _ in range(25):
                if deeds.random() < 0.25:
                    if not log:
                        self.refuses(NothingSeen, {}, watch.take_back)
                    else:
                        self.assertEqual(watch.take_back(), log[-1])
                        log = log[:-1]
                else:
                    charge = deeds.choice((0, 1, 1, 2, 2, meter.first, MOST + 1, -1, *NO_NUMBERS[:3]))
                    log = self.see(watch, log, charge, seen)
                places = find_places(meter, log) if log else ()
                self.assertEqual(shown(watch), (meter, log, places))
                self.assertTrue(isinstance(watch.log, tuple) and isinstance(watch.places, tuple))
        self.assertEqual(set(seen), {BadLog, Misfit, None})

    def see(self, watch, log, charge, seen):
        """See a charge; return the log behind it."""
        least = 0 if log == () else 1
        if type(charge) is not int or not least <= charge <= MOST:
            seen[BadLog] = 1
            self.refuses(BadLog, {"index": len(log)}, watch.see, charge)
            return log
        try:
            places = find_places(watch.meter, log + (charge,))
        except MeterError as error:
            seen[Misfit] = 1
            self.assertEqual(vars(error), {"index": len(log)})
            self.refuses(Misfit, {"index": len(log)}, watch.see, charge)
            return log
        seen[None] = 1
        self.assertEqual(watch.see(charge), places)
        return log + (charge,)

    def test_bad_entries(self):
        watch = Watch(Meter(loop(), 0, [MOST]))
        for wrong in (-1, MOST + 1, *NO_NUMBERS):
            self.refuses(BadLog, {"index": 0}, watch.see, wrong)
        self.assertEqual(watch.see(0), (0,))
        for wrong in (0, -1, MOST + 1, *NO_NUMBERS):
            self.refuses(BadLog, {"index": 1}, watch.see, wrong)
        self.refuses(Misfit, {"index": 1}, watch.see, 1)
        self.assertEqual(watch.see(MOST), (0,))

    def test_full(self):
        watch = Watch(Meter(loop(), 1, [1]))
        for _ in range(24):
            watch.see(1)
        for charge in (1, 2, 0, None):
            self.refuses(BadLog, {"index": 24}, watch.see, charge)
        self.assertEqual(watch.log, (1,) * 24)
        self.assertEqual(watch.take_back(), 1)
        self.refuses(Misfit, {"index": 23}, watch.see, 2)
        self.assertEqual(watch.see(1), (0,))
        self.assertEqual(len(watch.log), 24)


if __name__ == "__main__":
    unittest.main()
