"""Meters: a first charge and a charge on each arrow of a chart."""

from purseahead.charts import Chart, check_arrow
from purseahead.checking import first_outside, is_row, is_within
from purseahead.errors import BadMeter, Unlike
from purseahead.runs import check_run, last_place, used_by

MOST_CHARGE = 10 ** 12


def checked_first(first):
    if not is_within(first, 0, MOST_CHARGE):
        raise BadMeter("first", 0)
    return first


def checked_charges(charges, count):
    if not is_row(charges, count):
        raise BadMeter("charges", 0)
    index = first_outside(charges, 0, MOST_CHARGE)
    if index is not None:
        raise BadMeter("charge", index)
    return tuple(charges)


def sums_of(one, other):
    """The sums of two rows of the same length, item by item."""
    return [mine + its for mine, its in zip(one, other)]


def joined_chart(one, other):
    """The chart with the arrows of both and the sums of their costs."""
    if len(one.costs) != len(other.costs):
        raise Unlike("places")
    if one.arrows != other.arrows:
        raise Unlike("arrows")
    return Chart(sums_of(one.costs, other.costs), one.arrows)


class Meter:
    """What a run of the chart is charged: first ahead of place 0, then for each arrow."""

    def __init__(self, chart, first, charges):
        self.chart = chart
        self.first = checked_first(first)
        self.charges = checked_charges(charges, len(chart.arrows))

    def __eq__(self, other):
        return (isinstance(other, Meter) and self.chart == other.chart
                and self.first == other.first and self.charges == other.charges)

    def __add__(self, other):
        if not isinstance(other, Meter):
            return NotImplemented
        chart = joined_chart(self.chart, other.chart)
        return Meter(chart, self.first + other.first, sums_of(self.charges, other.charges))

    @property
    def charged_arrows(self):
        """The arrows that charge more than 0, ascending."""
        return tuple([arrow for arrow, charge in enumerate(self.charges) if charge > 0])

    def charged(self, run):
        """The first charge and the charges of the run's arrows, together."""
        return self.first + sum([self.charges[arrow] for arrow in check_run(self.chart, run)])

    def lead_ahead(self, run):
        """The lead ahead of the run's last place."""
        return self.lead_behind(run) + self.chart.costs[last_place(self.chart, run)]

    def lead_behind(self, run):
        """The lead behind the run's last place."""
        return self.charged(run) - used_by(self.chart, run)

    def with_first(self, first):
        return Meter(self.chart, first, self.charges)

    def with_charge(self, arrow, charge):
        check_arrow(self.chart, arrow)
        charges = list(self.charges)
        charges[arrow] = charge
        return Meter(self.chart, self.first, charges)

    @staticmethod
    def plain(chart):
        """The meter of plain counting: it charges the cost of each place just ahead of it."""
        heads = [arrow[1] for arrow in chart.arrows]
        return Meter(chart, chart.costs[0], [chart.costs[head] for head in heads])
