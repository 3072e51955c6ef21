"""Meters as texts."""

from purseahead.charttext import first_no_number, is_number_word, words_of
from purseahead.errors import BadText
from purseahead.meters import Meter


def meter_text(meter):
    """The first charge, a colon and the charges of the arrows, with one space between words."""
    charges = [str(charge) for charge in meter.charges]
    return " ".join([str(meter.first), ":", *charges])


def read_meter(chart, text):
    """The meter of a text, or BadText with the first word that does not fit."""
    words = words_of(text)
    if not is_number_word(words[0]):
        raise BadText(0)
    if len(words) == 1 or words[1] != ":":
        raise BadText(1)
    wrong = first_no_number(words, 2)
    if wrong < len(words):
        raise BadText(wrong)
    charges = [int(word) for word in words[2:]]
    return Meter(chart, int(words[0]), charges)
