"""[10.9] and [10.12]: choices out of a pool that mend a case, or spoil it."""

import unittest

from helping import BAD_LOTS, NO_SEQUENCES, Raises, all_lots, dense, example, is_deep_tuple, place_subsets, random_chart
from helping import sources
from test_edits import NO_EDITS, NO_GOALS, any_edit
from purseahead.charts import Chart
from purseahead.edits import apply_edits, meets_goal
from purseahead.errors import BadEdit, BadGoal, BadLot, BadPool, TooMany
from purseahead.mends import check_pool, find_mends, find_spoilers

GOALS = (("even",), ("bounded",), ("within", 3), ("within", 6), ("fewest", 1), ("fewest", 2))


def any_pool(source):
    """Edits drawn anywhere, and arrows that are put into the lot or taken out of it."""
    pool = []
    for _ in range(source.randint(1, 6)):
        lot_edit = (source.choice(("lay", "lift")), source.randint(0, 3))
        pool.append(source.choice((lot_edit, lot_edit, any_edit(source, 3))))
    return pool


def plain_outcomes(chart, lot, pool, goal):
    """For each choice that goes, whether it leads to a case that meets the goal."""
    told = {}
    for choice in place_subsets(len(pool)):
        try:
            case = apply_edits(chart, lot, [pool[number] for number in choice])
        except BadEdit:
            continue
        told[choice] = meets_goal(*case, goal)
    return told


def least_of(told, wanted):
    """The choices of an outcome that have no smaller choice of this outcome within them."""
    fitting = [choice for choice, meets in told.items() if meets is wanted]
    return [choice for choice in fitting if not any(set(less) < set(choice) for less in fitting)]


class Pools(Raises, unittest.TestCase):
    def test_taken(self):
        pool = [["lay", 99], ("cost", -1, 10 ** 30), ["aim", 5, -7], ("add", 99, 0), ("lift", 0), ["lay", 99]]
        found = check_pool(pool)
        self.assertEqual(found, tuple(tuple(edit) for edit in pool))
        self.assertTrue(is_deep_tuple(found))
        self.assertEqual(check_pool((("lay", 0),)), (("lay", 0),))

    def test_refused(self):
        works = (check_pool, lambda pool: find_mends(example(), (), pool, None),
                 lambda pool: find_spoilers(example(), (), pool, None))
        for work in works:
            for wrong in (*NO_SEQUENCES, (), [("lay", 0)] * 7, [None] * 7):
                self.refuses(BadPool, {"index": 0}, work, wrong)
            for wrong in NO_EDITS:
                self.refuses(BadPool, {"index": 0}, work, [wrong, wrong])
                self.refuses(BadPool, {"index": 5}, work, [("lay", 0)] * 5 + [wrong])


class Choices(Raises, unittest.TestCase):
    def test_example(self):
        pool = (("lay", 1), ["lay", 3], ("lay", 0))
        self.assertEqual(list(find_mends(example(), (), pool, ("even",))), [(0, 1), (1, 2)])
        self.assertEqual(list(find_spoilers(example(), [], list(pool), ["even"])), [()])
        pool = [("lift", 1), ("cost", 2, 0), ("lift", 3)]
        self.assertEqual(list(find_spoilers(example(), (1, 3), pool, ("even",))), [(0,), (2,)])
        self.assertEqual(list(find_mends(example(), (1, 3), pool, ("even",))), [()])

    def test_all_choices(self):
        seen = {"mends": set(), "spoilers": set(), "stops": 0, "spoiled": 0}
        for source in sources(600):
            chart = random_chart(source, most_places=4, most_arrows=4)
            lot = source.choice((source.choice(all_lots(chart)), tuple(range(len(chart.arrows)))))
            pool = any_pool(source)
            goal = source.choice(GOALS)
            told = plain_outcomes(chart, lot, pool, goal)
            mends = list(find_mends(chart, list(lot), [list(edit) for edit in pool], list(goal)))
            spoilers = list(find_spoilers(chart, list(lot), [list(edit) for edit in pool], list(goal)))
            self.assertEqual(mends, least_of(told, True))
            self.assertEqual(spoilers, least_of(told, False))
            self.assertIn([()], (mends, spoilers))
            self.assertTrue(is_deep_tuple(tuple(mends)) and is_deep_tuple(tuple(spoilers)))
            seen["mends"].update(len(choice) for choice in mends)
            seen["spoilers"].update(len(choice) for choice in spoilers)
            seen["stops"] += len(told) < 2 ** len(pool)
            # More edits are not always better.
            seen["spoiled"] += any(set(less) < set(choice) and told[less] and not told[choice]
                                   for less in mends for choice in told if less)
        self.assertTrue(seen["mends"] >= {0, 1, 2} and seen["spoilers"] >= {0, 1, 2}, seen)
        self.assertTrue(seen["stops"] > 50 and seen["spoiled"] > 2, seen)

    def test_what_does_not_go(self):
        # Each lay goes alone; both together are one too many.
        pool = [("lay", 3), ("lay", 3), ("lift", 1)]
        self.assertEqual(list(find_mends(example(), (1,), pool, ("even",))), [(0,), (1,)])
        self.assertEqual(list(find_spoilers(example(), (1,), pool, ("even",))), [()])
        # An edit that needs another one ahead of it.
        pool = [("lay", 5), ("add", 3, 0), ("lay", 5)]
        self.assertEqual(list(find_spoilers(example(), (1, 3), pool, ("even",))), [(1,)])
        self.assertEqual(list(find_mends(example(), (1, 3), pool[1:], ("even",))), [()])
        heavy = [("cost", 3, 5), ("add", 3, 0), ("lay", 5)]
        self.assertEqual(list(find_mends(example(), (1, 3), heavy, ("within", 5))), [])

    def test_largest_pool(self):
        pool = [("lay", arrow) for arrow in range(5)] + [("cost", 0, 0)]
        told = plain_outcomes(example(), (), pool, ("within", 5))
        self.assertEqual(len(told), 64)
        self.assertEqual(list(find_mends(example(), (), pool, ("within", 5))), least_of(told, True))
        told = plain_outcomes(dense(), tuple(range(32)), [("lift", at) for at in range(6)], ("even",))
        self.assertEqual(list(find_spoilers(dense(), tuple(range(32)), [("lift", at) for at in range(6)], ("even",))),
                         least_of(told, False))

    def test_order_of_errors(self):
        for work in (find_mends, find_spoilers):
            for index, wrong in BAD_LOTS:
                self.refuses(BadLot, {"index": index}, work, example(), wrong, None, None)
            self.refuses(BadPool, {"index": 1}, work, example(), (), [("lay", 0), ("lay",)], None)
            for wrong in NO_GOALS:
                self.refuses(BadGoal, {}, work, dense(), (), [("lay", 0)], wrong)

    def test_many(self):
        ten, nine = Chart([1, 1], [(0, 1), (1, 0)] * 5), Chart([1, 1], [(0, 1), (1, 0)] * 4 + [(0, 1)])
        adds = [("add", 0, 1), ("lay", 0), ("add", 9, -1)]
        for work in (find_mends, find_spoilers):
            self.refuses(TooMany, {"count": 12}, work, ten, (), adds, ("fewest", 3))
            self.refuses(TooMany, {"count": 11}, work, nine, (), adds, ["fewest", 3])
            self.refuses(TooMany, {"count": 11}, work, ten, (), adds[:2], ("fewest", 3))
            self.refuses(TooMany, {"count": 32}, work, dense(), (), [("lay", 0)], ("fewest", 3))
            self.refuses(BadGoal, {}, work, dense(), (), [("lay", 0)], ("fewest", 33))
        for chart, pool in ((ten, [("lay", 0), ("cost", 0, 0)]), (nine, [("add", 0, 1), ("cost", 1, 0)])):
            told = plain_outcomes(chart, (), pool, ("fewest", 4))
            self.assertEqual(list(find_mends(chart, (), pool, ("fewest", 4))), least_of(told, True))
            self.assertEqual(list(find_spoilers(chart, (), pool, ("fewest", 4))), least_of(told, False))
        # Without the goal "fewest" the number of arrows does not matter.
        self.assertEqual(list(find_mends(dense(), tuple(range(32)), [("add", 0, 0)] * 6, ("even",))), [()])

    def test_arguments_stay(self):
        chart, lot, pool, goal = example(), [1], [["lay", 3], ["lay", 0]], ["even"]
        list(find_mends(chart, lot, pool, goal))
        list(find_spoilers(chart, lot, pool, goal))
        self.assertEqual((chart, lot, pool, goal), (example(), [1], [["lay", 3], ["lay", 0]], ["even"]))

    def test_arguments_are_not_kept(self):
        lot, pool, goal = [1], [["lay", 3], ["lift", 1], ["lay", 2]], ["even"]
        told = list(find_mends(example(), lot, pool, goal))
        waiting = find_mends(example(), lot, pool, goal)
        found = [next(waiting)]
        lot[:], goal[:] = [], ["fewest", 0]
        pool[:] = [["lay", 0]]
        self.assertEqual(found + list(waiting), told)


if __name__ == "__main__":
    unittest.main()
