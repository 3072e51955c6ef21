"""Whether a meter is covered, whether it is even, and runs that show that it is not."""

from purseahead.checking import is_whole_row
from purseahead.drifts import find_drift, find_fall, lead_changes
from purseahead.leads import find_high_run, find_low_run, first_run_below, high_leads, low_leads
from purseahead.runs import run_to


class Short:
    def __init__(self, run, by):
        self.run = run
        self.by = by

    def __eq__(self, other):
        return isinstance(other, Short) and self.run == other.run and self.by == other.by


class Uneven:
    def __init__(self, place, one, other):
        self.place = place
        self.one = one
        self.other = other

    def __eq__(self, other):
        return (isinstance(other, Uneven) and self.place == other.place
                and self.one == other.one and self.other == other.other)


def find_short(meter):
    """None if the meter is covered, else the Drift of a ring that falls or the first Short run."""
    fall = find_fall(meter)
    if fall is not None:
        return fall
    # The lead behind is below 0 where the changes along the run, less the last cost, undo the first charge.
    ends = [-cost for cost in meter.chart.costs]
    run = first_run_below(meter.chart, lead_changes(meter), ends, -meter.first - 1)
    if run is None:
        return None
    return Short(run, -meter.lead_behind(run))


def is_covered(meter):
    return find_short(meter) is None


def least_first(meter):
    """The least first charge that covers the meter; Drifting if a ring falls."""
    lows = low_leads(meter)
    return max([cost - (low - meter.first) for cost, low in zip(meter.chart.costs, lows)])


def even_leads(meter):
    """The one lead ahead of each place, or the Uneven runs to a place."""
    drift = find_drift(meter)
    if drift is not None:
        return uneven_ring(meter.chart, drift.ring)
    lows = low_leads(meter)
    highs = high_leads(meter)
    for place, (low, high) in enumerate(zip(lows, highs)):
        if low < high:
            return Uneven(place, find_low_run(meter, place), find_high_run(meter, place))
    return lows


def uneven_ring(chart, ring):
    # The ring is written from its least place on.
    place = chart.arrows[ring[0]][0]
    run = run_to(chart, place)
    return Uneven(place, run, (*run, *ring))


def leads_fault(meter, leads):
    """None, or "form", "first" or "arrow": what is wrong with a row of even leads."""
    if not is_whole_row(leads, len(meter.chart.costs)):
        return "form"
    if leads[0] != meter.first:
        return "first"
    changes = lead_changes(meter)
    for arrow, (tail, head) in enumerate(meter.chart.arrows):
        if leads[head] != leads[tail] + changes[arrow]:
            return "arrow"
    return None


def is_metered(meter):
    """Whether the meter is even and covered."""
    return isinstance(even_leads(meter), tuple) and is_covered(meter)
