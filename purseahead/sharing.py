"""Refusals of lanes that share a purse, decided for all weaves, and the best order of whole turns."""

from purseahead.charts import is_arrow
from purseahead.checking import is_whole, is_whole_tuple, is_within
from purseahead.errors import BadLaneRuns
from purseahead.lanes import check_meters, leads_behind
from purseahead.runs import last_place, run_to, used_by
from purseahead.stops import MOST_LIMIT, check_limit, good_leads
from purseahead.weaves import check_lane_runs


class Unused:
    def __init__(self, unused, lane, arrow, runs, limit):
        self.unused = unused
        self.lane = lane
        self.arrow = arrow
        self.runs = runs
        self.limit = limit

    def __eq__(self, other):
        return (isinstance(other, Unused) and self.unused == other.unused and self.lane == other.lane
                and self.arrow == other.arrow and self.runs == other.runs and self.limit == other.limit)


class Turns:
    def __init__(self, limit, order):
        self.limit = limit
        self.order = order

    def __eq__(self, other):
        return isinstance(other, Turns) and self.limit == other.limit and self.order == other.order


def begun(meters, runs):
    """The (meter, run) of each lane that has a run."""
    return [(meter, run) for meter, run in zip(meters, runs) if run is not None]


def charged_in_all(meters, runs):
    return sum([meter.charged(run) for meter, run in begun(meters, runs)])


def used_in_all(meters, runs):
    return sum([used_by(meter.chart, run) for meter, run in begun(meters, runs)])


def limit_of(meters, runs):
    """What all the lane runs charge, together: the least limit with which no weave is refused."""
    checked = check_lane_runs(meters, runs)
    return charged_in_all(meters, checked)


def charges_of(meter, run):
    """The charges of the deeds of a lane run, none for None."""
    if run is None:
        return []
    return [meter.first, *[meter.charges[arrow] for arrow in run]]


def totals_of(charges):
    """What the beginnings of a row of charges come to, the empty one first."""
    totals = [0]
    for charge in charges:
        totals.append(totals[-1] + charge)
    return totals


def totals_of_others(rows, lane):
    """All that beginnings of the other lanes' charges come to, together."""
    totals = [0]
    for other, charges in enumerate(rows):
        if other != lane:
            totals = list({total + more: True for total in totals for more in totals_of(charges)})
    return totals


def first_refused(meters, runs, limit):
    """The (lane, deed) at which some weave meets its first refusal, ascending."""
    checked = check_lane_runs(meters, runs)
    check_limit(limit)
    rows = [charges_of(meter, run) for meter, run in zip(meters, checked)]
    found = []
    for lane, charges in enumerate(rows):
        totals = totals_of_others(rows, lane)
        for deed, paid in enumerate(totals_of(charges)[:-1]):
            if any([total + paid <= limit < total + paid + charges[deed] for total in totals]):
                found.append((lane, deed))
    return tuple(found)


def charged_heads(meter):
    """(lead, arrow) for each charge above 0: the lead ahead of its head; arrow None for the first charge."""
    leads = good_leads(meter)
    heads = [(leads[meter.chart.arrows[arrow][1]], arrow) for arrow in meter.charged_arrows]
    if meter.first > 0:
        return [(meter.first, None), *heads]
    return heads


def charge_at(meter, arrow):
    """The charge of an arrow, for None the first charge."""
    if arrow is None:
        return meter.first
    return meter.charges[arrow]


def run_ahead(meter, arrow):
    """A run to the tail of an arrow, for None none."""
    if arrow is None:
        return None
    return run_to(meter.chart, meter.chart.arrows[arrow][0])


def fullest_run(meter):
    """A run to a place with the greatest lead behind it."""
    behinds = leads_behind(meter)
    return run_to(meter.chart, behinds.index(max(behinds)))


def most_unused(meters):
    """The greatest number that can be unused at a refusal, with a way to meet it, or None."""
    checked = check_meters(meters)
    fullest = [max(leads_behind(meter)) for meter in checked]
    options = []
    for lane, meter in enumerate(checked):
        for lead, arrow in charged_heads(meter):
            options.append((lead - 1 + sum(fullest) - fullest[lane], lane, arrow))
    if not options:
        return None
    unused, lane, arrow = max(options, key=lambda option: option[0])
    runs = [fullest_run(meter) for meter in checked]
    runs[lane] = run_ahead(checked[lane], arrow)
    limit = charged_in_all(checked, runs) + charge_at(checked[lane], arrow) - 1
    return Unused(unused, lane, arrow, tuple(runs), limit)


def lane_runs_or_none(meters, runs):
    """The lane runs as a tuple, or None if they are none."""
    try:
        return check_lane_runs(meters, runs)
    except BadLaneRuns:
        return None


def can_be_refused(meter, run, arrow):
    """Whether the lane behind its run, None if it is fresh, has such a deed that charges something."""
    if arrow is not None:
        if not is_arrow(meter.chart, arrow) or meter.chart.arrows[arrow][0] != last_place(meter.chart, run):
            return False
    return charge_at(meter, arrow) > 0


def unused_fault(meters, told):
    """None, or the first of "lane", "runs", "arrow", "limit", "unused", "most" that is wrong with an Unused."""
    checked = check_meters(meters)
    if not is_within(told.lane, 0, len(checked) - 1):
        return "lane"
    runs = lane_runs_or_none(checked, told.runs)
    if runs is None or (runs[told.lane] is None) != (told.arrow is None):
        return "runs"
    meter = checked[told.lane]
    if not can_be_refused(meter, runs[told.lane], told.arrow):
        return "arrow"
    paid = charged_in_all(checked, runs)
    if not is_within(told.limit, paid, min(MOST_LIMIT, paid + charge_at(meter, told.arrow) - 1)):
        return "limit"
    if not is_whole(told.unused) or told.unused != told.limit - used_in_all(checked, runs):
        return "unused"
    if told.unused < most_unused(checked).unused:
        return "most"
    return None


def limit_in_order(meters, runs, order):
    """The least limit with which no deed is refused if the lanes run whole, one after another."""
    used = 0
    limit = 0
    for lane in order:
        limit = max(limit, used + meters[lane].charged(runs[lane]))
        used = used + used_by(meters[lane].chart, runs[lane])
    return limit


def lanes_with_runs(runs):
    return [lane for lane, run in enumerate(runs) if run is not None]


def best_turns(meters, runs):
    """The order of whole turns that needs the least limit: lanes whose runs leave most behind come first."""
    checked = check_lane_runs(meters, runs)
    order = sorted(lanes_with_runs(checked), key=lambda lane: (-meters[lane].lead_behind(checked[lane]), lane))
    return Turns(limit_in_order(meters, checked, order), tuple(order))


def turns_fault(meters, runs, told):
    """None, or the first of "order", "limit", "least" that is wrong with a Turns."""
    checked = check_lane_runs(meters, runs)
    lanes = lanes_with_runs(checked)
    if not is_whole_tuple(told.order, len(lanes)) or sorted(told.order) != lanes:
        return "order"
    if not is_whole(told.limit) or told.limit != limit_in_order(meters, checked, told.order):
        return "limit"
    if best_turns(meters, checked).limit < told.limit:
        return "least"
    return None
