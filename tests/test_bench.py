"""[10.10] and [10.11]: a bench that is changed step by step, and trials."""

import random
import unittest

from helping import BAD_LOTS, Raises, all_lots, dense, example, is_deep_tuple, random_chart, sources, told
from test_edits import NO_EDITS, NO_GOALS, any_edit
from purseahead.bench import Bench, Trial, in_trial
from purseahead.edits import apply_edits, meets_goal
from purseahead.errors import BadEdit, BadGoal, BadLot, MeterError, NothingDone, TooMany
from purseahead.evenness import Even
from purseahead.leastmeters import least_even

GOALS = (("even",), ("bounded",), ["within", 5], ("fewest", 1))


def shown(bench):
    return bench.chart, bench.lot, bench.done


class Stop(Exception):
    pass


class Benches(Raises, unittest.TestCase):
    def test_ordinary(self):
        bench = Bench(example(), [1, 3])
        self.assertEqual(shown(bench), (example(), (1, 3), ()))
        self.assertEqual(bench.even_now(), (6, 4, 4, 4))
        self.assertIsNone(bench.change(["lift", 1]))
        self.assertEqual(shown(bench), (example(), (3,), (("lift", 1),)))
        self.assertIsNone(bench.even_now())
        self.assertIs(bench.meets(("even",)), False)
        bench.change(("lay", 0))
        self.assertEqual(shown(bench), (example(), (0, 3), (("lift", 1), ("lay", 0))))
        self.assertEqual(bench.take_back(), ("lay", 0))
        self.assertEqual(bench.take_back(), ("lift", 1))
        self.assertEqual(shown(bench), (example(), (1, 3), ()))
        self.refuses(NothingDone, {}, bench.take_back)
        self.assertEqual(shown(Bench(example())), (example(), (), ()))
        self.assertEqual(Bench(chart=example(), lot=(4,)).lot, (4,))

    def test_any_deeds(self):
        """Random deeds beside the edits that stand, done anew each time."""
        seen = set()
        for at, source in enumerate(sources(80)):
            chart = random_chart(source, most_places=4, most_arrows=4)
            lot = source.choice(all_lots(chart))
            bench, edits, deeds = Bench(chart, list(lot)), [], random.Random(at)
            for _ in range(20):
                if deeds.random() < 0.3:
                    seen.add(self.take_back(bench, edits))
                else:
                    seen.add(self.change(bench, chart, lot, edits, deeds.choice((any_edit(deeds, 3), deeds.choice(NO_EDITS)))))
                case = apply_edits(chart, lot, edits)
                self.assertEqual(shown(bench), (*case, tuple(tuple(edit) for edit in edits)))
                self.assertTrue(is_deep_tuple(bench.done) and is_deep_tuple(bench.lot))
                found = least_even(*case)
                self.assertEqual(bench.even_now(), found.leads if isinstance(found, Even) else None)
                self.check_goals(bench, case, deeds)
        self.assertEqual(seen, {BadEdit, NothingDone, None})

    def take_back(self, bench, edits):
        if not edits:
            self.refuses(NothingDone, {}, bench.take_back)
            return NothingDone
        self.assertEqual(bench.take_back(), tuple(edits.pop()))
        return None

    def change(self, bench, chart, lot, edits, edit):
        try:
            apply_edits(*apply_edits(chart, lot, edits), [edit])
        except BadEdit as error:
            before = dict(vars(bench))
            self.refuses(BadEdit, {"index": 0, "what": error.what}, bench.change, edit)
            self.assertEqual(vars(bench), before)
            return BadEdit
        self.assertIsNone(bench.change(edit))
        edits.append(edit)
        return None

    def check_goals(self, bench, case, deeds):
        before = shown(bench)
        goal, edits = deeds.choice(GOALS), [any_edit(deeds, 3) for _ in range(deeds.randint(0, 2))]
        self.assertIs(bench.meets(goal), meets_goal(*case, goal))
        try:
            meets = meets_goal(*apply_edits(*case, edits), goal)
        except MeterError as error:
            with self.assertRaises(MeterError) as caught:
                bench.trial(edits, goal)
            self.assertEqual(told(caught.exception), told(error))
        else:
            self.assertIs(bench.trial([list(edit) for edit in edits], goal), meets)
        self.assertEqual(shown(bench), before)

    def test_refused(self):
        for index, wrong in BAD_LOTS:
            self.refuses(BadLot, {"index": index}, Bench, example(), wrong)
        bench = Bench(dense(), (1,))
        for wrong in NO_EDITS:
            self.refuses(BadEdit, {"index": 0, "what": "form"}, bench.change, wrong)
            self.refuses(BadEdit, {"index": 1, "what": "form"}, bench.trial, [("lay", 0), wrong], None)
        for wrong in (None, 7, "edits", [("lay", 0)] * 65):
            self.refuses(BadEdit, {"index": 0, "what": "form"}, bench.trial, wrong, None)
        self.refuses(BadEdit, {"index": 0, "what": "laid"}, bench.change, ("lay", 1))
        self.refuses(BadEdit, {"index": 1, "what": "bare"}, bench.trial, [("lift", 1), ("lift", 1)], None)
        for wrong in NO_GOALS:
            self.refuses(BadGoal, {}, bench.meets, wrong)
            self.refuses(BadGoal, {}, bench.trial, [("lift", 1)], wrong)
        self.refuses(TooMany, {"count": 32}, bench.meets, ("fewest", 1))
        self.refuses(TooMany, {"count": 32}, bench.trial, [("lift", 1)], ("fewest", 1))
        self.assertEqual(shown(bench), (dense(), (1,), ()))

    def test_many_changes(self):
        # More than 64 edits may stand, one after another.
        bench = Bench(example())
        for _ in range(50):
            bench.change(("lay", 0))
            bench.change(("lift", 0))
        self.assertEqual(len(bench.done), 100)
        for _ in range(100):
            bench.take_back()
        self.assertEqual(shown(bench), (example(), (), ()))

    def test_arguments_stay(self):
        lot, edit = [1, 3], ["cost", 0, 5]
        bench = Bench(example(), lot)
        bench.change(edit)
        lot.append(4)
        edit[2] = 9
        self.assertEqual((bench.lot, bench.done), ((1, 3), (("cost", 0, 5),)))
        self.assertEqual(bench.take_back(), ("cost", 0, 5))


class Trials(Raises, unittest.TestCase):
    def test_left(self):
        bench = Bench(example(), (1, 3))
        bench.change(("cost", 0, 5))
        before = shown(bench)
        with Trial(bench) as held:
            self.assertIs(held, bench)
            held.change(("lift", 3))
            held.change(("add", 3, 0))
            self.assertEqual(bench.done, (("cost", 0, 5), ("lift", 3), ("add", 3, 0)))
        self.assertEqual(shown(bench), before)
        self.assertEqual(bench.take_back(), ("cost", 0, 5))
        self.assertEqual(shown(bench), (example(), (1, 3), ()))
        self.refuses(NothingDone, {}, bench.take_back)

    def test_taken_back_below(self):
        # What stood ahead of the trial may be taken back within it; behind it, it stands again.
        bench = Bench(example(), (1, 3))
        bench.change(("lift", 1))
        bench.change(("lift", 3))
        before = shown(bench)
        with Trial(bench):
            bench.take_back()
            bench.take_back()
            self.refuses(NothingDone, {}, bench.take_back)
            bench.change(("cost", 1, 0))
        self.assertEqual(shown(bench), before)
        self.assertEqual([bench.take_back(), bench.take_back()], [("lift", 3), ("lift", 1)])
        self.assertEqual(shown(bench), (example(), (1, 3), ()))

    def test_left_by_an_error(self):
        bench = Bench(example(), (1, 3))
        with self.assertRaises(Stop) as caught:
            with Trial(bench):
                bench.change(("lift", 3))
                raise Stop("here")
        self.assertEqual(str(caught.exception), "here")
        self.assertEqual(shown(bench), (example(), (1, 3), ()))
        with self.assertRaises(BadEdit):
            with Trial(bench) as held:
                held.change(("lift", 3))
                held.change(("lift", 3))
        self.assertEqual(shown(bench), (example(), (1, 3), ()))

    def test_within_one_another(self):
        bench = Bench(example(), (1, 3))
        with Trial(bench):
            bench.change(("lift", 1))
            with Trial(bench):
                bench.change(("lift", 3))
                with self.assertRaises(Stop):
                    with Trial(bench):
                        bench.take_back()
                        bench.take_back()
                        raise Stop
                self.assertEqual(bench.done, (("lift", 1), ("lift", 3)))
            self.assertEqual(shown(bench), (example(), (3,), (("lift", 1),)))
            bench.change(("cost", 0, 0))
            self.assertEqual(bench.take_back(), ("cost", 0, 0))
        self.assertEqual(shown(bench), (example(), (1, 3), ()))

    def test_made_early_and_used_twice(self):
        bench = Bench(example(), (1, 3))
        trial = Trial(bench)
        self.assertIs(trial.bench, bench)
        bench.change(("lift", 1))
        for _ in range(2):
            with trial as held:
                held.change(("lift", 3))
            self.assertEqual(shown(bench), (example(), (3,), (("lift", 1),)))
            bench.take_back()
            bench.change(("lift", 1))

    def test_any_trials(self):
        for at, source in enumerate(sources(60)):
            chart = random_chart(source, most_places=4, most_arrows=4)
            self.go(Bench(chart), random.Random(at), 3)

    def go(self, bench, deeds, depth):
        """Change a bench at random, with trials within, each checked when it is left."""
        for _ in range(6):
            try:
                bench.take_back() if deeds.random() < 0.3 else bench.change(any_edit(deeds, 3))
            except MeterError:
                pass
            if depth and deeds.random() < 0.4:
                before = dict(vars(bench))
                try:
                    with Trial(bench) as held:
                        self.go(held, deeds, depth - 1)
                        if deeds.random() < 0.5:
                            raise Stop
                except Stop:
                    pass
                self.assertEqual(vars(bench), before)

    def test_in_trial(self):
        bench = Bench(example(), (1, 3))
        bench.change(("cost", 3, 0))
        before = shown(bench)

        def work(held):
            self.assertIs(held, bench)
            held.change(("lift", 1))
            held.take_back()
            held.take_back()
            held.change(("lift", 3))
            return held.even_now(), held.done

        self.assertEqual(in_trial(bench, work), (None, (("lift", 3),)))
        self.assertEqual(shown(bench), before)
        self.assertIsNone(in_trial(bench, lambda held: held.change(("lift", 1))))
        self.assertEqual(in_trial(bench, lambda held: in_trial(held, work)), (None, (("lift", 3),)))

        def broken(held):
            held.take_back()
            raise Stop("here")

        with self.assertRaises(Stop):
            in_trial(bench, broken)
        self.assertEqual(shown(bench), before)
        self.assertEqual(bench.take_back(), ("cost", 3, 0))


if __name__ == "__main__":
    unittest.main()
