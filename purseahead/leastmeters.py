"""The least even and covered leads of a lot, with reasons, or walks that forbid them."""

from purseahead.charts import check_place, is_place
from purseahead.checking import first_misfit, is_whole_tuple
from purseahead.demands import DemandRing, all_rooted, greatest_numbers, is_met, is_met_equally, least_numbers
from purseahead.errors import BadHighs, BadLows, NotEven
from purseahead.evenness import BadWalk, Even, are_steps, check_leads, check_lot, goes_back_along, is_step
from purseahead.evenness import lot_demands, step_ends, walk_places, walk_sum
from purseahead.meters import Meter

MOST_BOUND = 10 ** 11


class Between:
    def __init__(self, least, greatest):
        self.least = least
        self.greatest = greatest

    def __eq__(self, other):
        return isinstance(other, Between) and self.least == other.least and self.greatest == other.greatest


class Pinch:
    def __init__(self, start, steps):
        self.start = start
        self.steps = steps

    def __eq__(self, other):
        return isinstance(other, Pinch) and self.start == other.start and self.steps == other.steps


def check_lows(chart, lows):
    wrong = first_misfit(lows, len(chart.costs), 0, MOST_BOUND)
    if wrong is not None:
        raise BadLows(wrong)
    return tuple(lows)


def check_highs(chart, highs):
    wrong = first_misfit(highs, len(chart.costs), 0, MOST_BOUND)
    if wrong is not None:
        raise BadHighs(wrong)
    return tuple(highs)


def demands_above(chart, lot, lows):
    """The demands of the lot, each with its reason, and those of the lows."""
    reasoned = list(lot_demands(chart, lot))
    lowest = [(place, None, low, ("low",)) for place, low in enumerate(lows)]
    return [*reasoned, *lowest]


def without_reasons(reasoned):
    return [demand[:3] for demand in reasoned]


def least_of(chart, reasoned):
    """The Even of the least leads that meet such demands, or the BadWalk of a ring of them."""
    found = least_numbers(len(chart.costs), without_reasons(reasoned))
    if isinstance(found, DemandRing):
        return BadWalk(tuple([reasoned[index][3] for index in found.indexes]))
    return Even(found.numbers, tuple([reasoned[index][3] for index in found.reasons]))


def least_even(chart, lot):
    """The Even with the least leads that are even and covered for the lot, or a BadWalk."""
    reasoned = list(lot_demands(chart, lot))
    return least_of(chart, reasoned)


def least_above(chart, lot, lows):
    """The same among the leads at or above the lows."""
    check_lot(chart, lot)
    return least_of(chart, demands_above(chart, lot, check_lows(chart, lows)))


def is_root(reason):
    return reason in (("cost",), ("low",))


def start_of(chart, reason):
    """The place from which a reason comes, None for a cost or a low."""
    if is_root(reason):
        return None
    return step_ends(chart, reason)[0]


def is_reason(chart, lot, place, value):
    """Whether a value may be the reason of the place, whatever the leads are."""
    if is_root(value):
        return True
    if not is_step(chart, value) or goes_back_along(lot, value):
        return False
    return step_ends(chart, value)[1] == place


def are_reasons(chart, lot, reasons):
    if not isinstance(reasons, tuple) or len(reasons) != len(chart.costs):
        return False
    return all([is_reason(chart, lot, place, reason) for place, reason in enumerate(reasons)])


def demand_of(reasoned, place, reason):
    """The demand on the place, without its reason, that has this reason."""
    for demand in reasoned:
        if demand[0] == place and demand[3] == reason:
            return demand[:3]
    return None


def reasons_fault(chart, lot, lows, even):
    """None, or the first of "leads", "reason", "demand", "met", "ring" that is wrong with an Even."""
    checked = check_lot(chart, lot)
    reasoned = demands_above(chart, checked, check_lows(chart, lows))
    if not is_whole_tuple(even.leads, len(chart.costs)):
        return "leads"
    if not are_reasons(chart, checked, even.reasons):
        return "reason"
    if not all([is_met(even.leads, demand) for demand in without_reasons(reasoned)]):
        return "demand"
    demands = [demand_of(reasoned, place, reason) for place, reason in enumerate(even.reasons)]
    if not all([is_met_equally(even.leads, demand) for demand in demands]):
        return "met"
    if not all_rooted([start_of(chart, reason) for reason in even.reasons]):
        return "ring"
    return None


def chain_of(chart, even, place):
    """The (start, steps) of the walk that the reasons tell, from a cost or a low to the place."""
    at = check_place(chart, place)
    back = []
    while not is_root(even.reasons[at]):
        back.append(even.reasons[at])
        at = start_of(chart, even.reasons[at])
    return (at, tuple(reversed(back)))


def leads_between(chart, lot, lows, highs):
    """The least and greatest even and covered leads between the bounds, or a BadWalk, or a Pinch."""
    checked = check_lot(chart, lot)
    check_lows(chart, lows)
    check_highs(chart, highs)
    even = least_above(chart, checked, lows)
    if isinstance(even, BadWalk):
        return even
    for place, high in enumerate(highs):
        if even.leads[place] > high:
            start, steps = chain_of(chart, even, place)
            return Pinch(start, steps)
    demands = without_reasons(demands_above(chart, checked, lows))
    return Between(even.leads, greatest_numbers(len(chart.costs), demands, highs))


def pinch_fault(chart, lot, lows, highs, pinch):
    """None, or the first of "step", "joined", "sense", "sum" that is wrong with a Pinch."""
    checked = check_lot(chart, lot)
    check_lows(chart, lows)
    check_highs(chart, highs)
    if not is_place(chart, pinch.start) or not isinstance(pinch.steps, tuple):
        return "step"
    if not are_steps(chart, pinch.steps):
        return "step"
    places = walk_places(chart, pinch.start, pinch.steps)
    if places is None:
        return "joined"
    if any([goes_back_along(checked, step) for step in pinch.steps]):
        return "sense"
    least = max(chart.costs[pinch.start], lows[pinch.start])
    if least + walk_sum(chart, pinch.steps) <= highs[places[-1]]:
        return "sum"
    return None


def meter_of(chart, leads):
    """The meter that has these leads on every run; NotEven if an arrow would charge below 0."""
    checked = check_leads(chart, leads)
    charges = []
    for arrow, (tail, head) in enumerate(chart.arrows):
        charge = checked[head] - checked[tail] + chart.costs[tail]
        if charge < 0:
            raise NotEven(arrow)
        charges.append(charge)
    return Meter(chart, checked[0], charges)


def least_meter(chart, lot):
    """The meter of the least even and covered leads of the lot, or a BadWalk."""
    even = least_even(chart, lot)
    if isinstance(even, BadWalk):
        return even
    return meter_of(chart, even.leads)
