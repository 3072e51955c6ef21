"""Rings that drift, levels within parts, and the search for first ways of least weight.

A way is a row of arrows that follow one another; its weight is the sum of its arrows' weights. No way goes
along an arrow whose weight is None.
"""

from purseahead.checking import is_whole_row
from purseahead.errors import Drifting
from purseahead.parts import parts_of, within_part


class Drift:
    def __init__(self, ring, by):
        self.ring = ring
        self.by = by

    def __eq__(self, other):
        return isinstance(other, Drift) and self.ring == other.ring and self.by == other.by


def lead_changes(meter):
    """What each arrow adds to the lead ahead, on the way from its tail to its head."""
    costs = meter.chart.costs
    return [charge - costs[arrow[0]] for arrow, charge in zip(meter.chart.arrows, meter.charges)]


def negated(weights):
    return [-weight for weight in weights]


def one_further(chart, weights, row, lowest):
    """From the least weights of ways of one length, those of the ways with one arrow more in front."""
    longer = [None] * len(row)
    for arrow, (tail, head) in enumerate(chart.arrows):
        if tail >= lowest and weights[arrow] is not None and row[head] is not None:
            weight = weights[arrow] + row[head]
            if longer[tail] is None or weight < longer[tail]:
                longer[tail] = weight
    return longer


def least_back(chart, weights, ends, length, lowest=0):
    """For each number of arrows up to length and each place: the least weight of such a way from there.

    The way may only end at a place whose item in ends is no None, and that number is added; it leaves
    no place below the lowest one. The least weight is None if there is no such way.
    """
    rows = [list(ends)]
    for _ in range(length):
        rows.append(one_further(chart, weights, rows[-1], lowest))
    return rows


def first_arrow(chart, weights, row, place, most):
    """The first arrow out of the place that some way of weight most or less goes on from, or None."""
    for arrow in chart.outs(place):
        rest = row[chart.arrows[arrow][1]]
        if weights[arrow] is not None and rest is not None and weights[arrow] + rest <= most:
            return arrow
    return None


def first_way(chart, weights, rows, start, length, most):
    """The least tuple among the ways of that length from start of weight most or less; there is one."""
    place = start
    left = most
    way = []
    for shorter in reversed(range(length)):
        arrow = first_arrow(chart, weights, rows[shorter], place, left)
        way.append(arrow)
        left = left - weights[arrow]
        place = chart.arrows[arrow][1]
    return tuple(way)


def only_end(chart, place):
    """The row for least_back of ways that end at one place."""
    ends = [None] * len(chart.costs)
    ends[place] = 0
    return ends


def is_at_most(number, most):
    return number is not None and number <= most


def first_ring_below(chart, weights):
    """The first simple ring of a weight below 0, or None."""
    count = len(chart.costs)
    tables = [least_back(chart, weights, only_end(chart, start), count, start) for start in range(count)]
    for length in range(1, count + 1):
        starts = [start for start in range(count) if is_at_most(tables[start][length][start], -1)]
        # A closed way of least length is simple: else one of the rings in it would be shorter and below 0.
        if starts:
            return min([first_way(chart, weights, tables[start], start, length, -1) for start in starts])
    return None


def drift_along(ring, changes):
    if ring is None:
        return None
    return Drift(ring, sum([changes[arrow] for arrow in ring]))


def find_fall(meter):
    """The first simple ring that falls, or None."""
    changes = lead_changes(meter)
    return drift_along(first_ring_below(meter.chart, changes), changes)


def find_rise(meter):
    """The first simple ring that rises, or None."""
    changes = lead_changes(meter)
    return drift_along(first_ring_below(meter.chart, negated(changes)), changes)


def find_drift(meter):
    """The first simple ring that falls or rises, or None."""
    found = [drift for drift in (find_fall(meter), find_rise(meter)) if drift is not None]
    if not found:
        return None
    return min(found, key=lambda drift: (len(drift.ring), drift.ring))


def inner_arrows(chart):
    return [arrow for arrow in range(len(chart.arrows)) if within_part(chart, arrow)]


def part_levels(meter):
    """The level of each place, along the arrows within its part from its least place; else Drifting."""
    drift = find_drift(meter)
    if drift is not None:
        raise Drifting(drift.ring, drift.by)
    changes = lead_changes(meter)
    inner = inner_arrows(meter.chart)
    levels = [None] * len(meter.chart.costs)
    for part in parts_of(meter.chart):
        levels[part[0]] = 0
    # No ring drifts, so all ways to a place tell the same level; a way leaves no place twice.
    for _ in range(len(levels)):
        for arrow in inner:
            tail, head = meter.chart.arrows[arrow]
            if levels[tail] is not None and levels[head] is None:
                levels[head] = levels[tail] + changes[arrow]
    return tuple([level or 0 for level in levels])


def levels_fault(meter, levels):
    """None, or "form" or "arrow": what is wrong with a row of levels."""
    if not is_whole_row(levels, len(meter.chart.costs)):
        return "form"
    changes = lead_changes(meter)
    for arrow in inner_arrows(meter.chart):
        tail, head = meter.chart.arrows[arrow]
        if levels[head] != levels[tail] + changes[arrow]:
            return "arrow"
    return None
