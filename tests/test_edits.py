"""[10.6] to [10.8]: edits of a case, and goals."""

import unittest

from helping import BAD_LOTS, NO_NUMBERS, NO_SEQUENCES, Raises, all_lots, dense, example, is_deep_tuple, line, loop
from helping import place_subsets, random_chart, sources
from purseahead.bounded import Bounded, bounded_meter
from purseahead.charts import Chart
from purseahead.edits import apply_edits, check_goal, meets_goal
from purseahead.errors import BadChart, BadEdit, BadGoal, BadLot, TooMany
from purseahead.evenness import Even
from purseahead.leastmeters import least_even

MOST_COST = 10 ** 9
NO_EDITS = (None, 7, "lay", (), ("lay",), ("lay", 0, 0), ("lift",), ("lift", 0, 0), ("cost", 0), ("cost", 0, 0, 0), ("aim", 0),
            ("aim", 0, 0, 0), ("add", 0), ("add", 0, 0, 0), ("Lay", 0), ("", 0), (0, "lay"), (None, 0), (["lay"], 0),
            ("move", 0, 0), ("lay", True), ("lay", None), ("lay", "0"), ("cost", 0, False), ("cost", True, 0), ("aim", 0, "1"),
            ("add", (0,), 0), {"lay": 0}, {0: "lay", 1: 0}, b"la", ("cost",), (b"lay", 0))
NO_GOALS = (*NO_SEQUENCES, (), ("even", 0), ("bounded", 0), ("within",), ("fewest",), ("within", 0, 0), ("fewest", 1, 1),
            ("Even",), (None,), (0,), ("odd",), ("odd", 1), (["even"],), ("within", -1), ("within", 10 ** 12 + 1),
            ("fewest", -1), ("fewest", 33), *[(word, wrong) for word in ("within", "fewest") for wrong in NO_NUMBERS],
            (b"even",), "even", ("e", "v"))


def plain_edit(costs, arrows, lot, edit):
    """One edit of a case as the document tells it: the word that is wrong with it, or the case behind it."""
    if edit not in [row for row in [edit] if isinstance(row, (list, tuple)) and len(row) > 0]:
        return "form"
    word, numbers = edit[0], edit[1:]
    if word not in ("cost", "lay", "lift", "aim", "add") or len(numbers) != (1 if word in ("lay", "lift") else 2):
        return "form"
    if any(type(number) is not int for number in numbers):
        return "form"
    places, known = range(len(costs)), range(len(arrows))
    costs, arrows, lot = list(costs), list(arrows), set(lot)
    if word == "cost":
        if numbers[0] not in places:
            return "place"
        if not 0 <= numbers[1] <= MOST_COST:
            return "cost"
        costs[numbers[0]] = numbers[1]
    elif word == "add":
        if numbers[0] not in places or numbers[1] not in places:
            return "place"
        if len(arrows) == 32:
            return "many"
        arrows.append(tuple(numbers))
    else:
        if numbers[0] not in known:
            return "arrow"
        if word == "aim":
            if numbers[1] not in places:
                return "place"
            arrows[numbers[0]] = (arrows[numbers[0]][0], numbers[1])
            try:
                Chart(costs, arrows)
            except BadChart:
                return "reached"
        elif (numbers[0] in lot) == (word == "lay"):
            return "laid" if word == "lay" else "bare"
        else:
            lot ^= {numbers[0]}
    return costs, arrows, lot


def any_edit(source, most_number=4):
    word = source.choice(("cost", "lay", "lift", "aim", "add"))
    return (word, *[source.randint(-1, most_number) for _ in range(1 if word in ("lay", "lift") else 2)])


class Edits(Raises, unittest.TestCase):
    def test_each(self):
        for edit, told in ((("cost", 1, 9), (Chart((2, 9, 4, 1), example().arrows), (1, 3))),
                           (["lay", 0], (example(), (0, 1, 3))), (("lay", 2), (example(), (1, 2, 3))),
                           (("lift", 3), (example(), (1,))), (("cost", 3, 1), (example(), (1, 3))),
                           (("aim", 1, 2), (Chart(example().costs, ((0, 1), (1, 2), (0, 2), (2, 0), (0, 3))), (1, 3))),
                           (["aim", 4, 3], (example(), (1, 3))),
                           (("add", 3, 3), (Chart(example().costs, (*example().arrows, (3, 3))), (1, 3)))):
            self.assertEqual(apply_edits(example(), [1, 3], [edit]), told)
            self.assertEqual(apply_edits(example(), (1, 3), (tuple(edit),)), told)
        found = apply_edits(example(), [1, 3], [])
        self.assertEqual(found, (example(), (1, 3)))
        self.assertIsInstance(found, tuple)
        self.assertIsInstance(found[1], tuple)

    def test_in_order(self):
        edits = [["add", 3, 0], ["lay", 5], ["aim", 1, 2], ("aim", 2, 3), ["aim", 4, 2], ["cost", 3, 0], ["lift", 1], ["lay", 1],
                 ["lift", 3]]
        chart, lot = apply_edits(example(), (1, 3), edits)
        self.assertEqual(chart, Chart((2, 3, 4, 0), ((0, 1), (1, 2), (0, 3), (2, 0), (0, 2), (3, 0))))
        self.assertEqual(lot, (1, 5))
        self.assertTrue(is_deep_tuple(lot) and is_deep_tuple(chart.arrows))
        self.assertEqual(edits[0], ["add", 3, 0])
        # A new arrow is known only behind its add.
        self.refuses(BadEdit, {"index": 0, "what": "arrow"}, apply_edits, example(), (), [("lay", 5), ("add", 3, 0)])

    def test_any_edits(self):
        words = {}
        for source in sources(400):
            chart = random_chart(source, most_places=4, most_arrows=4)
            lot = source.choice(all_lots(chart))
            edits = [any_edit(source) for _ in range(source.randint(0, 6))]
            case, fault = (chart.costs, chart.arrows, lot), None
            for index, edit in enumerate(edits):
                told = plain_edit(*case, edit)
                if isinstance(told, str):
                    fault = {"index": index, "what": told}
                    break
                case = told
            words[fault and fault["what"]] = 1
            if fault:
                self.refuses(BadEdit, fault, apply_edits, chart, lot, edits)
            else:
                found = apply_edits(chart, list(lot), [list(edit) for edit in edits])
                self.assertEqual(found, (Chart(case[0], case[1]), tuple(sorted(case[2]))))
        self.assertEqual(set(words), {None, "place", "cost", "arrow", "laid", "bare", "reached"})

    def bad(self, what, edit, chart=None, lot=(1, 3)):
        chart = chart or example()
        self.assertEqual(plain_edit(chart.costs, chart.arrows, lot, edit), what)
        self.refuses(BadEdit, {"index": 0, "what": what}, apply_edits, chart, lot, [edit, None])
        self.refuses(BadEdit, {"index": 2, "what": what}, apply_edits, chart, lot, [("cost", 0, 7), ["cost", 0, 2], edit])

    def test_words(self):
        for edit in NO_EDITS:
            self.refuses(BadEdit, {"index": 0, "what": "form"}, apply_edits, example(), (1, 3), [edit, None])
            self.refuses(BadEdit, {"index": 1, "what": "form"}, apply_edits, example(), (1, 3), (("lay", 0), edit))
        for edit in (("cost", 4, 1), ("cost", -1, 1), ("aim", 0, 4), ["aim", 0, -1], ("add", 4, 0), ("add", 0, 4), ("add", -1, 0),
                     ("cost", 4, -1)):
            self.bad("place", edit)
        for edit in (("cost", 0, -1), ("cost", 3, MOST_COST + 1), ["cost", 0, 10 ** 20]):
            self.bad("cost", edit)
        for edit in (("lay", 5), ("lay", -1), ("lift", 5), ("lift", -1), ("aim", 5, 0), ("aim", -1, 0), ("aim", 5, 9)):
            self.bad("arrow", edit)
        self.bad("laid", ("lay", 1))
        self.bad("laid", ("lay", 3))
        self.bad("bare", ("lift", 0))
        self.bad("bare", ("lift", 4))
        self.bad("reached", ("aim", 4, 0))
        self.bad("reached", ["aim", 0, 0])
        self.assertEqual(apply_edits(line(3), (), [("aim", 0, 1)]), (line(3), ()))

    def test_edges(self):
        self.assertEqual(apply_edits(example(), (), [("cost", 0, 0), ("cost", 3, MOST_COST)])[0].costs, (0, 3, 4, MOST_COST))
        most = [("lay", 0), ("lift", 0)] * 32
        self.assertEqual(apply_edits(example(), (), most), (example(), ()))
        self.refuses(BadEdit, {"index": 0, "what": "form"}, apply_edits, example(), (), [*most, ("lay", 0)])
        self.refuses(BadEdit, {"index": 0, "what": "form"}, apply_edits, example(), (), [None] * 65)
        self.refuses(BadEdit, {"index": 63, "what": "bare"}, apply_edits, example(), (), [*most[:63], ("lift", 1)])
        for wrong in NO_SEQUENCES:
            self.refuses(BadEdit, {"index": 0, "what": "form"}, apply_edits, example(), (), wrong)
        full = Chart([1], [(0, 0)] * 31)
        self.assertEqual(len(apply_edits(full, (), [("add", 0, 0)])[0].arrows), 32)
        self.refuses(BadEdit, {"index": 1, "what": "many"}, apply_edits, full, (), [("add", 0, 0)] * 2)
        self.refuses(BadEdit, {"index": 0, "what": "many"}, apply_edits, dense(), (), [("add", 0, 0)])
        # The places of an add are asked first.
        self.refuses(BadEdit, {"index": 0, "what": "place"}, apply_edits, dense(), (), [("add", 0, 16)])
        self.assertEqual(apply_edits(dense(), (), [("lay", 31), ("lay", 0)])[1], (0, 31))

    def test_bad_lots(self):
        for index, wrong in BAD_LOTS:
            self.refuses(BadLot, {"index": index}, apply_edits, example(), wrong, None)
            self.refuses(BadLot, {"index": index}, meets_goal, example(), wrong, None)

    def test_arguments_stay(self):
        chart, lot, edits = example(), [1, 3], [["cost", 0, 9], ["lift", 1]]
        apply_edits(chart, lot, edits)
        self.assertEqual((chart, lot, edits), (example(), [1, 3], [["cost", 0, 9], ["lift", 1]]))


class Goals(Raises, unittest.TestCase):
    def test_check(self):
        for goal in (("even",), ["bounded"], ("within", 0), ["within", 10 ** 12], ("fewest", 0), ["fewest", 32]):
            self.assertEqual(check_goal(goal), tuple(goal))
            self.assertIsInstance(check_goal(goal), tuple)

    def test_refused(self):
        for goal in NO_GOALS:
            self.refuses(BadGoal, {}, check_goal, goal)
            self.refuses(BadGoal, {}, meets_goal, dense(), (), goal)

    def test_example(self):
        for lot, goals in (((1, 3), {("even",): True, ("within", 6): True, ("within", 5): False, ("bounded",): True}),
                           ((1,), {("even",): False, ("within", 10 ** 12): False, ("bounded",): False}),
                           ((), {("fewest", 2): True, ("fewest", 1): False, ("fewest", 32): True})):
            for goal, told in goals.items():
                self.assertIs(meets_goal(example(), lot, goal), told)
                self.assertIs(meets_goal(example(), list(lot), list(goal)), told)
        # Without a part there is no bad walk within one, but two ways may be uneven.
        ways = Chart([1, 5, 0], [(0, 1), (1, 2), (0, 2)])
        self.assertIs(meets_goal(ways, (), ("bounded",)), True)
        self.assertIs(meets_goal(ways, (), ("even",)), False)

    def test_all_lots(self):
        seen = {}
        for source in sources(60):
            chart = random_chart(source, most_places=4, most_arrows=4)
            even = {lot: least_even(chart, lot) for lot in all_lots(chart)}
            fewest = next(len(lot) for lot in place_subsets(len(chart.arrows)) if isinstance(even[lot], Even))
            for lot, found in even.items():
                told = {("even",): isinstance(found, Even), ("bounded",): isinstance(bounded_meter(chart, lot), Bounded)}
                for most in (0, 2, 4, 6, 9):
                    told[("within", most)] = isinstance(found, Even) and max(found.leads) <= most
                for number in range(5):
                    told[("fewest", number)] = fewest <= number
                for goal, meets in told.items():
                    self.assertIs(meets_goal(chart, lot, goal), meets)
                    seen[(goal[0], meets)] = seen.get((goal[0], meets), 0) + 1
        self.assertEqual(len(seen), 8)
        self.assertTrue(all(number > 20 for number in seen.values()), seen)

    def test_many(self):
        ten = Chart([1, 1], [(0, 1), (1, 0)] * 5)
        self.assertIs(meets_goal(ten, (9,), ["fewest", 10]), True)
        self.refuses(TooMany, {"count": 11}, meets_goal, Chart([1, 1], [(0, 1)] * 11), (), ("fewest", 0))
        self.refuses(TooMany, {"count": 32}, meets_goal, dense(), (), ("fewest", 32))
        self.refuses(BadGoal, {}, meets_goal, dense(), (), ("fewest", 33))
        self.assertIs(meets_goal(dense(), tuple(range(32)), ("even",)), True)
        self.assertIs(meets_goal(dense(), tuple(range(32)), ("within", 15)), True)
        self.assertIs(meets_goal(dense(), tuple(range(32)), ("within", 14)), False)
        self.assertIs(meets_goal(dense(), (), ("bounded",)), False)
        self.assertIs(meets_goal(loop(), (), ("even",)), False)


if __name__ == "__main__":
    unittest.main()
