"""[1.11] for charts, and [1.12]."""

import unittest

from helping import ARROWS, COSTS, Raises, dense, example, ladder, random_chart, sources
from purseahead.charts import Chart
from purseahead.charttext import chart_text, read_chart
from purseahead.errors import BadChart, BadText
from purseahead.parts import parts_of, rings_of
from purseahead.runs import places_of, used_by

TEXT = "2 3 4 1 : 0>1 1>0 0>2 2>0 0>3"


class Writing(unittest.TestCase):
    def test_texts(self):
        self.assertEqual(chart_text(example()), TEXT)
        self.assertEqual(chart_text(Chart([0], [])), "0 :")
        self.assertEqual(chart_text(Chart([10 ** 9], [(0, 0)])), "1000000000 : 0>0")
        self.assertEqual(chart_text(Chart([1] * 16, [(at, at + 1) for at in range(15)])).split()[-1], "14>15")

    def test_back(self):
        for source in sources(40):
            chart = random_chart(source)
            self.assertEqual(read_chart(chart_text(chart)), chart)
        for chart in (dense(), ladder(), Chart([10 ** 9], [])):
            self.assertEqual(read_chart(chart_text(chart)), chart)


class Reading(Raises, unittest.TestCase):
    def bad(self, word, text):
        self.refuses(BadText, {"word": word}, read_chart, text)

    def bad_chart(self, what, index, text):
        self.refuses(BadChart, {"what": what, "index": index}, read_chart, text)

    def test_texts(self):
        self.assertEqual(read_chart(TEXT), Chart(COSTS, ARROWS))
        self.assertEqual(read_chart("0 :"), Chart([0], []))
        self.assertEqual(read_chart("7 : 0>0"), Chart([7], [(0, 0)]))

    def test_no_string(self):
        for wrong in (None, 7, True, [], ["0", ":"], (), b"0 :", {}):
            self.bad(0, wrong)

    def test_blanks(self):
        self.bad(0, "")
        self.bad(0, " ")
        self.bad(0, " 0 :")
        self.bad(1, "0  :")
        self.bad(2, "0 : ")
        self.bad(2, "0 :  0>0")
        self.bad(3, "0 : 0>0 ")
        self.bad(3, "0 : 0>0  0>0")
        for blank in ("\t", "\n", "\u00a0", "\r"):
            self.bad(0, "0" + blank + ":")
            self.bad(1, "0 :" + blank)
            self.bad(2, "0 : 0>0" + blank)

    def test_words_missing(self):
        self.bad(1, "0")
        self.bad(3, "0 1 2")
        self.bad(1, "0 0>1")

    def test_numbers(self):
        for wrong in ("00", "01", "-1", "+1", "1.0", "1_0", "x", "0x1", "1e3", "", "\u0661", "\u00b2", "\uff11", ";"):
            self.bad(0, wrong + " :")
            self.bad(1, "1 " + wrong + " :")
            self.bad(2, "1 : " + wrong + ">0")
            self.bad(3, "1 : 0>0 0>" + wrong)

    def test_arrow_words(self):
        for wrong in ("0", ">", "0>", ">0", "0>0>0", "0>>0", "0<0", "0->0", ":", "0 >0", "0> 0"):
            self.bad(2, "1 : " + wrong)
            self.bad(3, "1 : 0>0 " + wrong + " x")

    def test_thirteen_digits(self):
        self.bad_chart("cost", 0, "9" * 13 + " :")
        self.bad(0, "1" + "0" * 13 + " :")
        self.bad_chart("arrow", 0, "1 : 0>" + "9" * 13)
        self.bad(2, "1 : 0>" + "9" * 14)
        self.bad(2, "1 : " + "9" * 14 + ">0")

    def test_the_chart_is_checked(self):
        self.bad_chart("places", 0, ":")
        self.bad_chart("places", 0, ": 0>0")
        self.bad_chart("places", 0, "1 " * 17 + ":")
        self.bad_chart("cost", 1, "1 1000000001 : 0>1")
        self.bad_chart("arrows", 0, "1 :" + " 0>0" * 33)
        self.bad_chart("arrow", 1, "1 1 : 0>1 0>2")
        self.bad_chart("reached", 1, "1 1 :")
        self.assertEqual(len(read_chart("1 :" + " 0>0" * 32).arrows), 32)

    def test_words_come_first(self):
        self.bad(18, "1 " * 17 + ": x")
        self.bad(2, "1000000001 : 0")
        self.bad(2, ": 0>0 0 00")
        self.bad(2, "1 : a b")
        self.bad(0, "a b")


class Example(unittest.TestCase):
    def test_example(self):
        chart = read_chart(TEXT)
        self.assertEqual(chart.ends, (3,))
        self.assertEqual(parts_of(chart), ((0, 1, 2),))
        self.assertEqual(list(rings_of(chart)), [(0, 1), (2, 3)])
        self.assertEqual(places_of(chart, (0, 1, 2)), (0, 1, 0, 2))
        self.assertEqual(used_by(chart, (0, 1, 2)), 11)


if __name__ == "__main__":
    unittest.main()
