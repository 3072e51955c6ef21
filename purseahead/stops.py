"""Where plain counting and the one-paced code stop, decided for all runs and limits."""

from purseahead.checking import is_within
from purseahead.covering import leads_fault
from purseahead.drifts import first_ring_below, first_way, lead_changes, least_back
from purseahead.errors import BadLimit, BadMost, NotMetered, Unlike
from purseahead.runs import check_run, run_to, used_by, used_row

MOST_LIMIT = 10 ** 15
MOST_SPAN = 64


class Stop:
    def __init__(self, places, unused):
        self.places = places
        self.unused = unused

    def __eq__(self, other):
        return isinstance(other, Stop) and self.places == other.places and self.unused == other.unused


class Early:
    def __init__(self, unused, run, limit):
        self.unused = unused
        self.run = run
        self.limit = limit

    def __eq__(self, other):
        return (isinstance(other, Early) and self.unused == other.unused
                and self.run == other.run and self.limit == other.limit)


class Lag:
    def __init__(self, number, run, limit):
        self.number = number
        self.run = run
        self.limit = limit

    def __eq__(self, other):
        return (isinstance(other, Lag) and self.number == other.number
                and self.run == other.run and self.limit == other.limit)


class Further:
    def __init__(self, place, run, limit):
        self.place = place
        self.run = run
        self.limit = limit

    def __eq__(self, other):
        return (isinstance(other, Further) and self.place == other.place
                and self.run == other.run and self.limit == other.limit)


class Stretch:
    def __init__(self, number, run):
        self.number = number
        self.run = run

    def __eq__(self, other):
        return isinstance(other, Stretch) and self.number == other.number and self.run == other.run


class Untested:
    def __init__(self, ring):
        self.ring = ring

    def __eq__(self, other):
        return isinstance(other, Untested) and self.ring == other.ring


def check_limit(limit):
    """Return the limit, or raise BadLimit."""
    if not is_within(limit, 0, MOST_LIMIT):
        raise BadLimit(limit)
    return limit


def check_span(most):
    if not is_within(most, 1, MOST_SPAN):
        raise BadMost(most)


def leads_of_firsts(meter):
    """For each place the lead ahead of it on one run."""
    changes = lead_changes(meter)
    leads = [None] * len(meter.chart.costs)
    leads[0] = meter.first
    for _ in range(len(leads)):
        for arrow, (tail, head) in enumerate(meter.chart.arrows):
            if leads[tail] is not None and leads[head] is None:
                leads[head] = leads[tail] + changes[arrow]
    return tuple(leads)


def good_leads(meter):
    """The leads of an even and covered meter; NotMetered for another one."""
    leads = leads_of_firsts(meter)
    if leads_fault(meter, leads) is not None:
        raise NotMetered("even")
    if any([lead < cost for lead, cost in zip(leads, meter.chart.costs)]):
        raise NotMetered("covered")
    return leads


def plain_stop(chart, run, limit):
    """The number of places that plain counting uses."""
    used = used_row(chart, run)
    check_limit(limit)
    return len([amount for amount in used if amount <= limit])


def one_paced(meter, run, limit):
    """The Stop of the one-paced code."""
    good_leads(meter)
    checked = check_run(meter.chart, run)
    check_limit(limit)
    if limit < meter.first:
        return Stop(0, limit)
    purse = limit - meter.first
    paid = []
    for arrow in checked:
        if purse < meter.charges[arrow]:
            break
        purse = purse - meter.charges[arrow]
        paid.append(arrow)
    return Stop(len(paid) + 1, limit - used_by(meter.chart, paid))


def charged_starts(meter):
    """(place, run) for place 0 and for the head of each charged arrow: a run that ends with the arrow."""
    starts = [(0, ())]
    for arrow in meter.charged_arrows:
        tail, head = meter.chart.arrows[arrow]
        starts.append((head, (*run_to(meter.chart, tail), arrow)))
    return starts


def refusing_limit(meter, run):
    """The greatest limit with which the last charge of the run cannot be paid."""
    return meter.charged(run) - 1


def early_most(meter):
    """The greatest unused with which the one-paced code stops at a charge, or None."""
    leads = good_leads(meter)
    # A lead of 0 ahead of place 0 means that there is no first charge.
    starts = [(leads[place], run) for place, run in charged_starts(meter) if leads[place] > 0]
    if not starts:
        return None
    lead, run = max(starts)
    return Early(lead - 1, run, refusing_limit(meter, run))


def kept_below(total, bound):
    if bound is not None and total >= bound:
        return None
    return total


def longer_spans(chart, bounds, shorter):
    """From the least spans of one number of places, those of one place more in front."""
    longer = [None] * len(shorter)
    for tail, head in chart.arrows:
        if shorter[head] is not None:
            total = kept_below(chart.costs[tail] + shorter[head], bounds[tail])
            if total is not None and (longer[tail] is None or total < longer[tail]):
                longer[tail] = total
    return longer


def least_spans(chart, bounds, most):
    """For each number of places up to most, less 1, and each place: the least cost of so many from there on.

    For each of these places the costs from it to the last one are together below its bound, unless that
    is None. The least cost is None if there are no such places.
    """
    rows = [[kept_below(cost, bound) for cost, bound in zip(chart.costs, bounds)]]
    for _ in range(most - 1):
        rows.append(longer_spans(chart, bounds, rows[-1]))
    return rows


def span_from(chart, rows, place, number):
    """The arrows along that many places of the least cost from the place on."""
    way = []
    for shorter in reversed(range(number - 1)):
        left = rows[shorter + 1][place] - chart.costs[place]
        fitting = [arrow for arrow in chart.outs(place) if rows[shorter][chart.arrows[arrow][1]] == left]
        way.append(fitting[0])
        place = chart.arrows[fitting[0]][1]
    return tuple(way)


def lag_most(meter, most):
    """The greatest number of places, but at most `most`, that plain counting uses behind the one-paced code's stop."""
    leads = good_leads(meter)
    check_span(most)
    chart = meter.chart
    rows = least_spans(chart, [None] * len(leads), most)
    starts = charged_starts(meter)
    for number in reversed(range(1, most + 1)):
        for place, run in starts:
            least = rows[number - 1][place]
            if least is not None and least < leads[place]:
                way = span_from(chart, rows, place, number)
                return Lag(number, (*run, *way), refusing_limit(meter, run))
    return Lag(0, (), 0)


def find_further(meter, other):
    """None, or the least place that meter's one-paced code uses on some run with a limit on which other's does not."""
    mine = good_leads(meter)
    its = good_leads(other)
    if meter.chart != other.chart:
        raise Unlike("charts")
    for place, lead in enumerate(mine):
        if lead < its[place]:
            run = run_to(meter.chart, place)
            return Further(place, run, meter.charged(run))
    return None


def untested_most(meter):
    """A ring of uncharged arrows, or the greatest number of them that follow one another."""
    good_leads(meter)
    chart = meter.chart
    marks = [None if charge > 0 else -1 for charge in meter.charges]
    ring = first_ring_below(chart, marks)
    if ring is not None:
        return Untested(ring)
    rows = least_back(chart, marks, [0] * len(chart.costs), len(chart.costs) - 1)
    number = max([length for length, row in enumerate(rows) if any([least is not None for least in row])])
    starts = [place for place, least in enumerate(rows[number]) if least is not None]
    way = first_way(chart, marks, rows, starts[0], number, -number)
    return Stretch(number, (*run_to(chart, starts[0]), *way))
