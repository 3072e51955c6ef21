"""[1.5] to [1.7]: runs."""

import unittest

from helping import NO_NUMBERS, NO_SEQUENCES, Raises, dense, example, ladder, line, loop, plain_runs, random_chart
from helping import sources
from purseahead.charts import Chart
from purseahead.errors import BadLength, BadPlace, BadRun
from purseahead.runs import all_runs, check_run, count_runs, last_place, places_of, run_to, used_by, used_row


class Checking(Raises, unittest.TestCase):
    def bad(self, index, run, chart=None):
        for work in (check_run, places_of, last_place, used_by, used_row):
            self.refuses(BadRun, {"index": index}, work, chart or example(), run)

    def test_runs(self):
        for run in ((), (0,), (0, 1, 2), (2, 3, 4), (0, 1) * 200):
            self.assertEqual(check_run(example(), run), run)
            self.assertEqual(check_run(example(), list(run)), run)
            self.assertIsInstance(check_run(example(), list(run)), tuple)

    def test_lengths(self):
        self.assertEqual(len(check_run(loop(), [0] * 400)), 400)
        self.bad(0, [0] * 401, loop())
        self.bad(0, (0, 1) * 200 + (0,))
        self.bad(0, [None] * 401)

    def test_no_sequences(self):
        for wrong in NO_SEQUENCES:
            self.bad(0, wrong)

    def test_items(self):
        self.bad(0, (1,))
        self.bad(1, (0, 2))
        self.bad(1, (4, 0))
        self.bad(2, [0, 1, 3, 9])
        for wrong in (-1, 5, *NO_NUMBERS):
            self.bad(0, (wrong,))
            self.bad(2, (0, 1, wrong, wrong))
        self.bad(0, (0,), Chart([1], []))

    def test_first_item(self):
        self.bad(1, (0, 0, 7))
        self.bad(0, (5, 0))


class Asking(unittest.TestCase):
    def test_example(self):
        run = [0, 1, 2]
        self.assertEqual(places_of(example(), run), (0, 1, 0, 2))
        self.assertEqual(last_place(example(), run), 2)
        self.assertEqual(used_by(example(), run), 11)
        self.assertEqual(used_row(example(), run), (2, 5, 7, 11))
        self.assertEqual(run, [0, 1, 2])

    def test_no_arrow(self):
        self.assertEqual(places_of(example(), ()), (0,))
        self.assertEqual(last_place(example(), []), 0)
        self.assertEqual(used_by(example(), ()), 2)
        self.assertEqual(used_row(example(), ()), (2,))

    def test_itself(self):
        self.assertEqual(places_of(loop(), (0, 0)), (0, 0, 0))
        self.assertEqual(used_by(loop(), (0, 0)), 3)

    def test_largest(self):
        chart = Chart([10 ** 9], [(0, 0)])
        run = [0] * 400
        self.assertEqual(used_by(chart, run), 401 * 10 ** 9)
        self.assertEqual(used_row(chart, run), tuple(range(10 ** 9, 402 * 10 ** 9, 10 ** 9)))
        self.assertEqual(len(places_of(chart, run)), 401)

    def test_agree(self):
        for source in sources(40):
            chart = random_chart(source)
            for run in plain_runs(chart, 3):
                row = used_row(chart, run)
                self.assertEqual(len(row), len(places_of(chart, run)))
                self.assertEqual(row[-1], used_by(chart, run))
                self.assertEqual(row[-1], sum(chart.costs[place] for place in places_of(chart, run)))
                self.assertEqual(places_of(chart, run)[-1], last_place(chart, run))


class Listing(Raises, unittest.TestCase):
    def test_small_charts(self):
        for source in sources(40):
            chart = random_chart(source)
            for length in range(5):
                expected = plain_runs(chart, length)
                self.assertEqual(list(all_runs(chart, length)), expected)
                self.assertEqual(count_runs(chart, length), len(expected))

    def test_tuples(self):
        for run in all_runs(example(), 3):
            self.assertIsInstance(run, tuple)
        self.assertEqual(list(all_runs(example(), 0)), [()])

    def test_length_twelve(self):
        self.assertEqual(list(all_runs(loop(), 12)), [(0,) * 12])
        runs = list(all_runs(example(), 12))
        self.assertEqual(len(runs), count_runs(example(), 12))
        self.assertEqual(runs, sorted(set(runs)))
        self.assertEqual(list(all_runs(line(5), 12)), [])

    def test_first_of_very_many(self):
        # 32 ** 12 runs: only the first ones are asked for.
        runs = all_runs(Chart([1], [(0, 0)] * 32), 12)
        self.assertEqual(next(runs), (0,) * 12)
        self.assertEqual(next(runs), (0,) * 11 + (1,))

    def test_bad_lengths(self):
        for wrong in (-1, 13, 100, *NO_NUMBERS):
            self.refuses(BadLength, {"length": wrong}, all_runs, example(), wrong)
        for wrong in (-1, 101, *NO_NUMBERS):
            self.refuses(BadLength, {"length": wrong}, count_runs, example(), wrong)

    def test_counts(self):
        self.assertEqual(count_runs(example(), 0), 1)
        self.assertEqual(count_runs(example(), 13), len(plain_runs(example(), 13)))
        self.assertEqual(count_runs(ladder(), 100), 2 ** 100)
        self.assertEqual(count_runs(Chart([1], [(0, 0)] * 32), 100), 32 ** 100)
        self.assertEqual(count_runs(line(16), 15), 1)
        self.assertEqual(count_runs(line(16), 16), 0)
        self.assertEqual(count_runs(dense(), 12), 2 ** 12)


class First(Raises, unittest.TestCase):
    def test_example(self):
        self.assertEqual([run_to(example(), place) for place in range(4)], [(), (0,), (2,), (4,)])

    def test_least_tuple(self):
        chart = Chart([1] * 4, [(2, 3), (1, 3), (0, 2), (0, 1), (1, 3), (0, 1)])
        self.assertEqual(run_to(chart, 3), (2, 0))
        self.assertEqual(run_to(chart, 1), (3,))
        self.assertEqual(run_to(loop(), 0), ())

    def test_small_charts(self):
        for source in sources(60):
            chart = random_chart(source)
            for place in range(len(chart)):
                runs = [run for length in range(len(chart)) for run in plain_runs(chart, length)]
                first = next(run for run in runs if last_place(chart, run) == place)
                self.assertEqual(run_to(chart, place), first)

    def test_largest(self):
        self.assertEqual(run_to(ladder(), 15), tuple(range(0, 30, 2)))
        self.assertEqual(run_to(dense(), 15), (1, 7, 13, 19, 25))

    def test_refused(self):
        for wrong in (-1, 4, *NO_NUMBERS):
            self.refuses(BadPlace, {"place": wrong}, run_to, example(), wrong)


if __name__ == "__main__":
    unittest.main()
