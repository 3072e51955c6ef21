"""[1.11] for meters."""

import unittest

from helping import Raises, example, example_meter, ladder, loop, random_meter, sources
from purseahead.charts import Chart
from purseahead.errors import BadMeter, BadText
from purseahead.meters import Meter
from purseahead.metertext import meter_text, read_meter

TEXT = "6 : 0 5 0 6 0"


class Writing(unittest.TestCase):
    def test_texts(self):
        self.assertEqual(meter_text(example_meter()), TEXT)
        self.assertEqual(meter_text(Meter(Chart([1], []), 0, ())), "0 :")
        self.assertEqual(meter_text(Meter(loop(), 10 ** 12, [10 ** 12])), "1000000000000 : 1000000000000")

    def test_back(self):
        for source in sources(40):
            meter = random_meter(source)
            self.assertEqual(read_meter(meter.chart, meter_text(meter)), meter)
        largest = Meter(ladder(), 10 ** 12, [10 ** 12] * 32)
        self.assertEqual(read_meter(ladder(), meter_text(largest)), largest)


class Reading(Raises, unittest.TestCase):
    def bad(self, word, text, chart=None):
        self.refuses(BadText, {"word": word}, read_meter, chart or example(), text)

    def bad_meter(self, what, index, text, chart=None):
        self.refuses(BadMeter, {"what": what, "index": index}, read_meter, chart or example(), text)

    def test_texts(self):
        self.assertEqual(read_meter(example(), TEXT), example_meter())
        self.assertEqual(read_meter(Chart([1], []), "0 :"), Meter(Chart([1], []), 0, ()))

    def test_no_string(self):
        for wrong in (None, 7, True, [], ["0", ":"], (), b"0 :", {}):
            self.bad(0, wrong)

    def test_blanks(self):
        self.bad(0, "")
        self.bad(0, " ")
        self.bad(0, " 6 :")
        self.bad(1, "6  : 0 5 0 6 0")
        self.bad(2, "6 : ")
        self.bad(2, "6 :  0")
        self.bad(7, TEXT + " ")
        self.bad(3, "6 : 0  5 0 6 0")
        self.bad(6, TEXT + "\n")

    def test_words(self):
        self.bad(0, ":")
        self.bad(0, ": 6")
        self.bad(1, "6")
        self.bad(1, "6 7 : 0")
        self.bad(1, "6 7")
        self.bad(1, "6 6:")
        self.bad(2, "6 : :")
        self.bad(3, "6 : 0 : 0")

    def test_numbers(self):
        for wrong in ("00", "01", "-1", "+1", "1.0", "1_0", "x", "0>1", "\u0661", "\u00b2"):
            self.bad(0, wrong + " : 0 5 0 6 0")
            self.bad(4, "6 : 0 5 " + wrong + " x 0")

    def test_thirteen_digits(self):
        self.bad_meter("first", 0, "9" * 13 + " : 0 5 0 6 0")
        self.bad(0, "1" + "0" * 13 + " : 0 5 0 6 0")
        self.bad_meter("charge", 1, "6 : 0 1000000000001 0 6 0")
        self.bad(3, "6 : 0 " + "1" * 14 + " 0 6 0")
        self.assertEqual(read_meter(loop(), "1000000000000 : 1000000000000").charges, (10 ** 12,))

    def test_the_meter_is_checked(self):
        self.bad_meter("charges", 0, "6 :")
        self.bad_meter("charges", 0, "6 : 0 5 0 6")
        self.bad_meter("charges", 0, TEXT + " 0")
        self.bad_meter("first", 0, "1000000000001 :")
        self.bad_meter("charges", 0, "6 : 0", Chart([1], []))

    def test_words_come_first(self):
        self.bad(8, TEXT + " 0 x")
        self.bad(2, "1000000000001 : x")


if __name__ == "__main__":
    unittest.main()
