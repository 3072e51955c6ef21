"""Charts whose places use numbers of several kinds, and prices of the kinds."""

from purseahead.charts import Chart, MOST_PLACES, checked_arrows, first_unreached
from purseahead.checking import first_misfit, is_sequence, is_within
from purseahead.errors import BadChart, BadKinds, BadPrices, NoKind
from purseahead.runs import places_of

MOST_KINDS = 3
MOST_NUMBER = 1000
MOST_PRICE = 1000


def is_kind_row(row, kinds):
    return first_misfit(row, kinds, 0, MOST_NUMBER) is None


def checked_rows(rows):
    """Return the rows as a tuple of tuples, or raise BadKinds."""
    if not is_sequence(rows) or not 1 <= len(rows) <= MOST_PLACES:
        raise BadKinds("rows", 0)
    if not is_sequence(rows[0]) or not 1 <= len(rows[0]) <= MOST_KINDS:
        raise BadKinds("row", 0)
    for place, row in enumerate(rows):
        if not is_kind_row(row, len(rows[0])):
            raise BadKinds("row", place)
    return tuple([tuple(row) for row in rows])


class KindChart:
    """A chart with a row of numbers, one for each kind, in the place of each cost."""

    def __init__(self, rows, arrows):
        self.rows = checked_rows(rows)
        self.arrows = checked_arrows(arrows, len(self.rows))
        self.kinds = len(self.rows[0])
        place = first_unreached(len(self.rows), self.arrows)
        if place is not None:
            raise BadChart("reached", place)

    def __len__(self):
        return len(self.rows)

    def __eq__(self, other):
        return isinstance(other, KindChart) and self.rows == other.rows and self.arrows == other.arrows

    def of_kind(self, kind):
        """The chart whose costs are the numbers of this kind."""
        return Chart(numbers_of(self.rows, check_kind(self, kind)), self.arrows)

    def at_prices(self, prices):
        """The chart in which each place costs its priced row."""
        return Chart(priced_rows(check_prices(self, prices), self.rows), self.arrows)


def check_kind(kindchart, kind):
    """Return the number of a kind, or raise NoKind."""
    if not is_within(kind, 0, kindchart.kinds - 1):
        raise NoKind(kind)
    return kind


def check_prices(kindchart, prices):
    """Return the prices as a tuple, or raise BadPrices."""
    wrong = first_misfit(prices, kindchart.kinds, 0, MOST_PRICE)
    if wrong is not None:
        raise BadPrices(wrong)
    return tuple(prices)


def numbers_of(rows, kind):
    """The numbers of one kind in all rows."""
    return [row[kind] for row in rows]


def price_row(prices, row):
    """The sum of price times number over the kinds."""
    return sum([price * number for price, number in zip(prices, row)])


def priced_rows(prices, rows):
    return [price_row(prices, row) for row in rows]


def used_by_kind(kindchart, run):
    """What the run uses of each kind."""
    rows = [kindchart.rows[place] for place in places_of(kindchart.of_kind(0), run)]
    return tuple([sum(numbers_of(rows, kind)) for kind in range(kindchart.kinds)])
