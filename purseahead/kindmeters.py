"""Meters whose charges are rows of numbers, one for each kind."""

from purseahead.checking import first_misfit, is_row
from purseahead.covering import even_leads, find_short
from purseahead.errors import BadKindMeter
from purseahead.kinds import check_kind, check_prices, numbers_of, price_row, priced_rows
from purseahead.meters import Meter

MOST_CHARGE = 10 ** 8


class KindShort:
    def __init__(self, kind, found):
        self.kind = kind
        self.found = found

    def __eq__(self, other):
        return isinstance(other, KindShort) and self.kind == other.kind and self.found == other.found


class KindUneven:
    def __init__(self, kind, found):
        self.kind = kind
        self.found = found

    def __eq__(self, other):
        return isinstance(other, KindUneven) and self.kind == other.kind and self.found == other.found


def is_charge_row(row, kinds):
    return first_misfit(row, kinds, 0, MOST_CHARGE) is None


def checked_first(first, kinds):
    if not is_charge_row(first, kinds):
        raise BadKindMeter(-1)
    return tuple(first)


def checked_charges(charges, count, kinds):
    """Return the charges as a tuple of rows, or raise BadKindMeter."""
    if not is_row(charges, count):
        raise BadKindMeter(count)
    for arrow, row in enumerate(charges):
        if not is_charge_row(row, kinds):
            raise BadKindMeter(arrow)
    return tuple([tuple(row) for row in charges])


class KindMeter:
    """What a run is charged of each kind: first ahead of place 0, then for each arrow."""

    def __init__(self, kindchart, first, charges):
        self.kindchart = kindchart
        self.first = checked_first(first, kindchart.kinds)
        self.charges = checked_charges(charges, len(kindchart.arrows), kindchart.kinds)

    def __eq__(self, other):
        return (isinstance(other, KindMeter) and self.kindchart == other.kindchart
                and self.first == other.first and self.charges == other.charges)

    @property
    def charged_arrows(self):
        """The arrows whose row is not all 0, ascending."""
        return tuple([arrow for arrow, row in enumerate(self.charges) if max(row) > 0])

    def charged(self, run):
        """The first row and the rows of the run's arrows, together."""
        return tuple([meter.charged(run) for meter in meters_of(self)])

    def lead_ahead(self, run):
        """The lead ahead of the run's last place, by kind."""
        return tuple([meter.lead_ahead(run) for meter in meters_of(self)])

    def lead_behind(self, run):
        """The lead behind the run's last place, by kind."""
        return tuple([meter.lead_behind(run) for meter in meters_of(self)])

    def of_kind(self, kind):
        """The meter of this kind on the chart of this kind."""
        checked = check_kind(self.kindchart, kind)
        return Meter(self.kindchart.of_kind(checked), self.first[checked], numbers_of(self.charges, checked))

    def at_prices(self, prices):
        """The meter of the priced rows on the priced chart."""
        checked = check_prices(self.kindchart, prices)
        chart = self.kindchart.at_prices(checked)
        return Meter(chart, price_row(checked, self.first), priced_rows(checked, self.charges))


def meters_of(kindmeter):
    """The meter of each kind, in order."""
    return [kindmeter.of_kind(kind) for kind in range(kindmeter.kindchart.kinds)]


def find_kind_short(kindmeter):
    """None if the meter of each kind is covered, else what is short in the first one that is not."""
    for kind, meter in enumerate(meters_of(kindmeter)):
        found = find_short(meter)
        if found is not None:
            return KindShort(kind, found)
    return None


def even_rows(kindmeter):
    """The lead ahead of each place by kind, or the first kind whose meter is not even."""
    leads = []
    for kind, meter in enumerate(meters_of(kindmeter)):
        found = even_leads(meter)
        if not isinstance(found, tuple):
            return KindUneven(kind, found)
        leads.append(found)
    return tuple(zip(*leads))
