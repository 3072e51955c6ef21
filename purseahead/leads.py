"""The least and the greatest leads of all runs, the first runs with them, floors and ceilings."""

from purseahead.charts import check_place
from purseahead.checking import is_whole_row
from purseahead.drifts import find_fall, find_rise, first_way, is_at_most, lead_changes, least_back, negated, only_end
from purseahead.errors import Drifting
from purseahead.runs import check_run


def leads_along(meter, run):
    """Yield (place, ahead, behind) for each visit of the run."""
    checked = check_run(meter.chart, run)
    place = 0
    ahead = meter.first
    behind = ahead - meter.chart.costs[place]
    yield place, ahead, behind
    for arrow in checked:
        place = meter.chart.arrows[arrow][1]
        ahead = behind + meter.charges[arrow]
        behind = ahead - meter.chart.costs[place]
        yield place, ahead, behind


def least_sums(chart, weights):
    """The least weight of a run to each place; no ring's weight is below 0."""
    sums = [None] * len(chart.costs)
    sums[0] = 0
    for _ in range(len(sums)):
        for arrow, (tail, head) in enumerate(chart.arrows):
            if sums[tail] is not None:
                weight = sums[tail] + weights[arrow]
                if sums[head] is None or weight < sums[head]:
                    sums[head] = weight
    return sums


def low_leads(meter):
    """The least lead ahead of each place; Drifting if a ring falls."""
    fall = find_fall(meter)
    if fall is not None:
        raise Drifting(fall.ring, fall.by)
    return tuple([meter.first + least for least in least_sums(meter.chart, lead_changes(meter))])


def high_leads(meter):
    """The greatest lead ahead of each place; Drifting if a ring rises."""
    rise = find_rise(meter)
    if rise is not None:
        raise Drifting(rise.ring, rise.by)
    weights = negated(lead_changes(meter))
    return tuple([meter.first - least for least in least_sums(meter.chart, weights)])


def first_run_below(chart, weights, ends, most):
    """The first run of weight most or less, or None; ends as for least_back, no ring below 0."""
    longest = len(chart.costs) - 1
    rows = least_back(chart, weights, ends, longest)
    for length in range(longest + 1):
        if is_at_most(rows[length][0], most):
            return first_way(chart, weights, rows, 0, length, most)
    return None


def find_low_run(meter, place):
    """The first run that comes to the place with its least lead."""
    check_place(meter.chart, place)
    low = low_leads(meter)[place]
    ends = only_end(meter.chart, place)
    return first_run_below(meter.chart, lead_changes(meter), ends, low - meter.first)


def find_high_run(meter, place):
    """The first run that comes to the place with its greatest lead."""
    check_place(meter.chart, place)
    high = high_leads(meter)[place]
    ends = only_end(meter.chart, place)
    return first_run_below(meter.chart, negated(lead_changes(meter)), ends, meter.first - high)


def greatest_lead(meter):
    return max(high_leads(meter))


def floor_fault(meter, floor):
    """None, or "form", "first" or "arrow": what is wrong with a floor."""
    if not is_whole_row(floor, len(meter.chart.costs)):
        return "form"
    return bound_fault(meter.chart, floor, meter.first, lead_changes(meter))


def ceiling_fault(meter, ceiling):
    """None, or "form", "first" or "arrow": what is wrong with a ceiling."""
    if not is_whole_row(ceiling, len(meter.chart.costs)):
        return "form"
    # A ceiling is a floor of the leads with all signs turned round.
    return bound_fault(meter.chart, negated(ceiling), -meter.first, negated(lead_changes(meter)))


def bound_fault(chart, floor, first, changes):
    if floor[0] > first:
        return "first"
    for arrow, (tail, head) in enumerate(chart.arrows):
        if floor[head] > floor[tail] + changes[arrow]:
            return "arrow"
    return None
