"""Meters without drift whose first charge is least, and what can be used between the arrows of a lot."""

from purseahead.charts import check_place
from purseahead.covering import is_covered
from purseahead.drifts import find_drift, first_ring_below, first_way, inner_arrows, least_back
from purseahead.evenness import BadWalk, check_lot, lot_demands
from purseahead.leastmeters import least_of
from purseahead.meters import Meter


class Bounded:
    def __init__(self, meter, lows, reasons):
        self.meter = meter
        self.lows = lows
        self.reasons = reasons

    def __eq__(self, other):
        return (isinstance(other, Bounded) and self.meter == other.meter
                and self.lows == other.lows and self.reasons == other.reasons)


class Need:
    def __init__(self, used, run):
        self.used = used
        self.run = run

    def __eq__(self, other):
        return isinstance(other, Need) and self.used == other.used and self.run == other.run


class Endless:
    def __init__(self, ring):
        self.ring = ring

    def __eq__(self, other):
        return isinstance(other, Endless) and self.ring == other.ring


def inner_demands(chart, lot):
    """The demands of the lot, but the forward ones of the arrows that lie within no part."""
    inner = inner_arrows(chart)
    reasoned = list(lot_demands(chart, lot))
    return [demand for demand in reasoned if demand[3][-1] != "forward" or demand[3][0] in inner]


def meter_above(chart, lot, lows):
    """The meter that charges just enough at the arrows of the lot to keep each lead at its low or above."""
    charges = [0] * len(chart.arrows)
    for arrow in lot:
        tail, head = chart.arrows[arrow]
        charges[arrow] = max(0, lows[head] - lows[tail] + chart.costs[tail])
    return Meter(chart, lows[0], charges)


def bounded_meter(chart, lot):
    """A covered meter of the lot without drift and of the least first charge, or a BadWalk within a part."""
    checked = check_lot(chart, lot)
    # No walk of these demands leaves a part for good and comes back: no step leads to a later part.
    found = least_of(chart, inner_demands(chart, checked))
    if isinstance(found, BadWalk):
        return found
    return Bounded(meter_above(chart, checked, found.leads), found.leads, found.reasons)


def bounded_fault(chart, lot, meter):
    """None, or the first of "chart", "lot", "drift", "covered", "first" that is wrong with a Meter."""
    checked = check_lot(chart, lot)
    if meter.chart != chart:
        return "chart"
    if any([arrow not in checked for arrow in meter.charged_arrows]):
        return "lot"
    if find_drift(meter) is not None:
        return "drift"
    if not is_covered(meter):
        return "covered"
    # A covered meter without drift rules out the bad walk, so there is a least first charge.
    if meter.first != bounded_meter(chart, checked).lows[0]:
        return "first"
    return None


def reached_without(chart, lot, place):
    """For each place whether one comes to it from the given one along arrows that are not in the lot."""
    found = [False] * len(chart.costs)
    found[place] = True
    for _ in range(len(chart.costs)):
        for arrow, (tail, head) in enumerate(chart.arrows):
            if found[tail] and arrow not in lot:
                found[head] = True
    return found


def uses_below(chart, lot, reached):
    """What each arrow out of a reached place uses, below 0; None bars the arrows of the lot and the others."""
    weights = []
    for arrow, (tail, head) in enumerate(chart.arrows):
        if arrow in lot or not reached[tail]:
            weights.append(None)
        else:
            weights.append(-chart.costs[head])
    return weights


def use_rows(chart, weights):
    """The rows of least_back for all ways that may be the longest, as no ring is below 0."""
    count = len(chart.costs)
    return least_back(chart, weights, [0] * count, count - 1)


def least_in(rows, place):
    return min([row[place] for row in rows if row[place] is not None])


def need_from(chart, lot, place):
    """The Need of the place, or Endless if a ring without arrows of the lot uses something."""
    checked = check_lot(chart, lot)
    check_place(chart, place)
    weights = uses_below(chart, checked, reached_without(chart, checked, place))
    ring = first_ring_below(chart, weights)
    if ring is not None:
        return Endless(ring)
    rows = use_rows(chart, weights)
    least = least_in(rows, place)
    lengths = [length for length, row in enumerate(rows) if row[place] == least]
    run = first_way(chart, weights, rows, place, lengths[0], least)
    return Need(chart.costs[place] - least, run)


def all_needs(chart, lot):
    """What can be used from each place on without an arrow of the lot, or Endless."""
    checked = check_lot(chart, lot)
    weights = uses_below(chart, checked, [True] * len(chart.costs))
    ring = first_ring_below(chart, weights)
    if ring is not None:
        return Endless(ring)
    rows = use_rows(chart, weights)
    return tuple([cost - least_in(rows, place) for place, cost in enumerate(chart.costs)])


def covering_meter(chart, lot):
    """The meter that pays all needs at the first charge and at the arrows of the lot, or Endless."""
    checked = check_lot(chart, lot)
    needs = all_needs(chart, checked)
    if isinstance(needs, Endless):
        return needs
    charges = [0] * len(chart.arrows)
    for arrow in checked:
        charges[arrow] = needs[chart.arrows[arrow][1]]
    return Meter(chart, needs[0], charges)
