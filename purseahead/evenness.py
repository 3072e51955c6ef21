"""Lots of arrows that may charge, what they demand of even and covered leads, and walks."""

from purseahead.charts import check_place, is_arrow
from purseahead.checking import first_misfit, is_sequence
from purseahead.errors import BadLeads, BadLot

MOST_LEAD = 5 * 10 ** 11


class Even:
    def __init__(self, leads, reasons):
        self.leads = leads
        self.reasons = reasons

    def __eq__(self, other):
        return isinstance(other, Even) and self.leads == other.leads and self.reasons == other.reasons


class BadWalk:
    def __init__(self, steps):
        self.steps = steps

    def __eq__(self, other):
        return isinstance(other, BadWalk) and self.steps == other.steps


def check_lot(chart, lot):
    """Return the lot as a tuple, or raise BadLot."""
    if not is_sequence(lot):
        raise BadLot(0)
    before = -1
    for index, arrow in enumerate(lot):
        if not is_arrow(chart, arrow) or arrow <= before:
            raise BadLot(index)
        before = arrow
    return tuple(lot)


def behind_last(lot):
    """The least number above all of the lot."""
    if not lot:
        return 0
    return lot[-1] + 1


def lots_by_number(count):
    """All ascending tuples of numbers below count, by number of items, then ascending."""
    lots = []
    level = [()]
    while level:
        lots = [*lots, *level]
        level = [(*lot, arrow) for lot in level for arrow in range(behind_last(lot), count)]
    return lots


def check_leads(chart, leads):
    """Return the leads as a tuple, or raise BadLeads."""
    wrong = first_misfit(leads, len(chart.costs), 0, MOST_LEAD)
    if wrong is not None:
        raise BadLeads(wrong)
    return tuple(leads)


def lot_demands(chart, lot):
    """Yield (place, start, by, reason): the costs by place, then forward, then back by arrow."""
    checked = check_lot(chart, lot)
    costs = chart.costs
    for place, cost in enumerate(costs):
        yield place, None, cost, ("cost",)
    for arrow, (tail, head) in enumerate(chart.arrows):
        yield head, tail, -costs[tail], (arrow, "forward")
    for arrow, (tail, head) in enumerate(chart.arrows):
        if arrow not in checked:
            yield tail, head, costs[tail], (arrow, "back")


def first_unmet(chart, lot, leads):
    """The (place, reason) of the first demand of the lot that the leads do not meet, or None."""
    check_lot(chart, lot)
    check_leads(chart, leads)
    for place, start, by, reason in lot_demands(chart, lot):
        least = by
        if start is not None:
            least = leads[start] + by
        if leads[place] < least:
            return (place, reason)
    return None


def is_step(chart, value):
    """Whether a value is a tuple of an arrow number and a sense."""
    if not isinstance(value, tuple) or len(value) != 2:
        return False
    return is_arrow(chart, value[0]) and value[1] in ("forward", "back")


def are_steps(chart, value):
    return is_sequence(value) and all([is_step(chart, step) for step in value])


def step_ends(chart, step):
    """The places that a step leaves and comes to."""
    arrow, sense = step
    tail, head = chart.arrows[arrow]
    if sense == "forward":
        return (tail, head)
    return (head, tail)


def walk_places(chart, start, steps):
    """The places of the walk, start first, or None if the steps are none or do not hang together."""
    check_place(chart, start)
    if not are_steps(chart, steps):
        return None
    places = [start]
    for step in steps:
        left, reached = step_ends(chart, step)
        if left != places[-1]:
            return None
        places.append(reached)
    return tuple(places)


def step_gain(chart, step):
    arrow, sense = step
    cost = chart.costs[chart.arrows[arrow][0]]
    if sense == "back":
        return cost
    return -cost


def walk_sum(chart, steps):
    """The costs of the tails, added for steps back and subtracted for steps forward."""
    return sum([step_gain(chart, step) for step in steps])


def goes_back_along(lot, step):
    """Whether a step goes back along an arrow of the lot."""
    arrow, sense = step
    return sense == "back" and arrow in lot


def is_closed(chart, steps):
    """Whether steps of the chart are one or more, hang together and end where they begin."""
    if not steps:
        return False
    start = step_ends(chart, steps[0])[0]
    places = walk_places(chart, start, steps)
    return places is not None and places[-1] == start


def walk_fault(chart, lot, walk):
    """None, or the first of "step", "closed", "sense", "sum" that is wrong with a BadWalk."""
    checked = check_lot(chart, lot)
    if not isinstance(walk.steps, tuple) or not are_steps(chart, walk.steps):
        return "step"
    if not is_closed(chart, walk.steps):
        return "closed"
    if any([goes_back_along(checked, step) for step in walk.steps]):
        return "sense"
    if walk_sum(chart, walk.steps) <= 0:
        return "sum"
    return None
