"""Charts as texts, and the words of which texts are made."""

from purseahead.charts import Chart
from purseahead.errors import BadText

MOST_DIGITS = 13


def chart_text(chart):
    """The costs, a colon and the arrows, with one space between words."""
    costs = [str(cost) for cost in chart.costs]
    arrows = [f"{tail}>{head}" for tail, head in chart.arrows]
    return " ".join([*costs, ":", *arrows])


def words_of(text):
    """The words between single spaces; two spaces side by side leave an empty word."""
    if not isinstance(text, str):
        raise BadText(0)
    return text.split(" ")


def is_number_word(word):
    # Not isdigit: it takes digits of other scripts, too.
    if not 1 <= len(word) <= MOST_DIGITS or not all([sign in "0123456789" for sign in word]):
        return False
    return word == "0" or word[0] != "0"


def is_arrow_word(word):
    sides = word.split(">")
    return len(sides) == 2 and all([is_number_word(side) for side in sides])


def first_no_number(words, first):
    """The index, from first on, of the first word that is no number, or the number of words."""
    for index in range(first, len(words)):
        if not is_number_word(words[index]):
            return index
    return len(words)


def read_chart(text):
    """The chart of a text, or BadText with the first word that does not fit."""
    words = words_of(text)
    colon = first_no_number(words, 0)
    if colon == len(words) or words[colon] != ":":
        raise BadText(colon)
    for index in range(colon + 1, len(words)):
        if not is_arrow_word(words[index]):
            raise BadText(index)
    costs = [int(word) for word in words[:colon]]
    arrows = [[int(side) for side in word.split(">")] for word in words[colon + 1:]]
    return Chart(costs, arrows)
