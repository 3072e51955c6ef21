"""Meters of works: a first charge, and charges on calls and on arrows."""

from purseahead.checking import first_outside, is_row, is_within
from purseahead.errors import BadWorkLeads, BadWorkMeter, NotEvenWorks
from purseahead.meters import MOST_CHARGE
from purseahead.workruns import inner_ways, marks_along, runs_to_points, visit_of, visits_along
from purseahead.works import by_procedure, called_by, cost_of, link_of, list_calls, list_marks, list_points
from purseahead.works import list_spots

MOST_LEAD = 10 ** 11


class WorkLeads:
    def __init__(self, leads):
        self.leads = leads

    def __eq__(self, other):
        return isinstance(other, WorkLeads) and self.leads == other.leads


class UnevenWorks:
    def __init__(self, point, one, other):
        self.point = point
        self.one = one
        self.other = other

    def __eq__(self, other):
        return (isinstance(other, UnevenWorks) and self.point == other.point
                and self.one == other.one and self.other == other.other)


def checked_first(first):
    if not is_within(first, 0, MOST_CHARGE):
        raise BadWorkMeter("first", 0, 0)
    return first


def checked_call_row(works, number, row):
    """Return the charges of the procedure's calls as a tuple, or raise BadWorkMeter."""
    called = works.calls[number]
    if not is_row(row, len(called)):
        raise BadWorkMeter("callrow", number, 0)
    for place, charge in enumerate(row):
        most = MOST_CHARGE
        if called[place] is None:
            most = 0
        if not is_within(charge, 0, most):
            raise BadWorkMeter("call", number, place)
    return tuple(row)


def checked_calls(works, calls):
    if not is_row(calls, len(works.charts)):
        raise BadWorkMeter("calls", 0, 0)
    return tuple([checked_call_row(works, number, row) for number, row in enumerate(calls)])


def checked_arrow_row(works, number, row):
    """Return the charges of the procedure's arrows as a tuple, or raise BadWorkMeter."""
    if not is_row(row, len(works.charts[number].arrows)):
        raise BadWorkMeter("arrowrow", number, 0)
    wrong = first_outside(row, 0, MOST_CHARGE)
    if wrong is not None:
        raise BadWorkMeter("arrow", number, wrong)
    return tuple(row)


def checked_arrows(works, arrows):
    if not is_row(arrows, len(works.charts)):
        raise BadWorkMeter("arrows", 0, 0)
    return tuple([checked_arrow_row(works, number, row) for number, row in enumerate(arrows)])


class WorkMeter:
    """What a run of works is charged: first ahead of (0, 0), then for each call and each arrow."""

    def __init__(self, works, first, calls, arrows):
        self.works = works
        self.first = checked_first(first)
        self.calls = checked_calls(works, calls)
        self.arrows = checked_arrows(works, arrows)

    def __eq__(self, other):
        return (isinstance(other, WorkMeter) and self.works == other.works and self.first == other.first
                and self.calls == other.calls and self.arrows == other.arrows)

    @property
    def charged_marks(self):
        """The marks that charge more than 0, in the order of list_marks."""
        return tuple([mark for mark in list_marks(self.works) if charge_of(self, mark) > 0])

    def charged(self, steps):
        """The first charge and the charges of all steps, together."""
        return self.first + sum([charge_of(self, mark) for mark in marks_along(self.works, steps)])

    def lead_behind(self, steps):
        """What is charged less what all visits use."""
        return behinds_along(self, marks_along(self.works, steps))[-1]


def charge_of(meter, mark):
    """What a meter charges along a mark's link."""
    kind, number, item = mark
    if kind == "arrow":
        return meter.arrows[number][item]
    if kind == "call":
        return meter.calls[number][item]
    return 0


def behinds_along(meter, marks):
    """The lead behind each visit of the run along the marks."""
    behind = meter.first - cost_of(meter.works, (0, 0))
    behinds = [behind]
    for mark in marks:
        point = visit_of(meter.works, mark)
        if point is not None:
            behind = behind + charge_of(meter, mark) - cost_of(meter.works, point)
            behinds.append(behind)
    return behinds


def leads_of_steps(meter, steps):
    """The lead ahead of each visit."""
    marks = marks_along(meter.works, steps)
    visits = visits_along(meter.works, marks)
    behinds = behinds_along(meter, marks)
    return tuple([behind + cost_of(meter.works, point) for point, behind in zip(visits, behinds)])


def spot_leads(meter):
    """For each spot the lead along some links from (0, 0)."""
    marks = list_marks(meter.works)
    leads = {spot: None for spot in list_spots(meter.works)}
    leads[(0, 0)] = meter.first
    for _ in range(len(leads)):
        for mark in marks:
            start, end = link_of(meter.works, mark)
            if leads[start] is not None and leads[end] is None:
                leads[end] = lead_along(meter, leads, mark)
    return leads


def lead_along(meter, leads, mark):
    """The lead to which a mark's link leads from the lead of the spot that it leaves."""
    start = link_of(meter.works, mark)[0]
    return leads[start] - cost_of(meter.works, start) + charge_of(meter, mark)


def even_works(meter):
    """The WorkLeads of an even meter, or two runs to a point with unlike leads."""
    leads = spot_leads(meter)
    for mark in list_marks(meter.works):
        if leads[link_of(meter.works, mark)[1]] != lead_along(meter, leads, mark):
            return uneven_runs(meter)
    return WorkLeads(by_procedure(meter.works, leads))


def uneven_runs(meter):
    """The UnevenWorks of the first point where a run differs from the first run to it."""
    firsts = runs_to_points(meter.works)
    leads = {point: leads_of_steps(meter, firsts[point])[-1] for point in firsts}
    for point, run in linked_runs(meter.works, firsts):
        if leads_of_steps(meter, run)[-1] != leads[point]:
            return UnevenWorks(point, firsts[point], run)
    return None


def linked_runs(works, firsts):
    """Each point with runs that go on to it from the first runs: over each arrow, each call, and each end between.

    If none of them differs in its lead from the first run to its point, the leads satisfy all links.
    """
    ways = inner_ways(works)
    found = []
    for number, chart in enumerate(works.charts):
        for arrow, (tail, head) in enumerate(chart.arrows):
            for over in ways_over(works, ways, (number, tail)):
                found.append(((number, head), (*firsts[(number, tail)], *over, ("arrow", arrow))))
    for point in list_calls(works):
        found.append(((called_by(works, point), 0), (*firsts[point], ("call",))))
    return found


def ways_over(works, ways, point):
    """For each end of the procedure that a point calls the steps over it; just () if nothing is called."""
    called = called_by(works, point)
    if called is None:
        return [()]
    return [(("call",), *ways[(called, place)], ("return",)) for place in works.charts[called].ends]


def is_metered_works(meter):
    """Whether the meter is even and no lead is below its point's cost."""
    found = even_works(meter)
    return isinstance(found, WorkLeads) and is_covered_by(meter.works, found.leads)


def is_covered_by(works, leads):
    return all([leads[number][place] >= cost_of(works, (number, place)) for number, place in list_points(works)])


def first_bad_lead(works, leads):
    """The procedure and the place of the first bad number in rows of leads, or None."""
    if not is_row(leads, len(works.charts)):
        return (0, 0)
    for number, row in enumerate(leads):
        count = len(works.charts[number].costs)
        if not is_row(row, count):
            return (number, 0)
        place = first_outside(row, 0, MOST_LEAD)
        if place is not None:
            return (number, place)
    return None


def end_leads(works, leads):
    """For each called procedure the lead behind its first end; NotEvenWorks for an end with another one."""
    behinds = {}
    for mark in list_marks(works):
        if mark[0] == "end":
            kind, number, place = mark
            behind = leads[number][place] - cost_of(works, (number, place))
            if number not in behinds:
                behinds[number] = behind
            if behind != behinds[number]:
                raise NotEvenWorks(mark)
    return behinds


def needed_charge(works, leads, behinds, mark):
    """What an arrow or a call charges, so that these leads hold along its link."""
    start, end = link_of(works, mark)
    ahead = leads[end[0]][end[1]]
    if start[1] is None:
        return ahead - behinds[start[0]]
    return ahead - leads[start[0]][start[1]] + cost_of(works, start)


def charges_from(works, leads, behinds):
    """What each arrow and call charges; NotEvenWorks for one below 0."""
    charges = {}
    for mark in list_marks(works):
        if mark[0] != "end":
            charges[mark] = needed_charge(works, leads, behinds, mark)
            if charges[mark] < 0:
                raise NotEvenWorks(mark)
    return charges


def meter_from_leads(works, leads):
    """The even meter with these leads, a row for each procedure."""
    wrong = first_bad_lead(works, leads)
    if wrong is not None:
        raise BadWorkLeads(wrong[0], wrong[1])
    behinds = end_leads(works, leads)
    charges = charges_from(works, leads, behinds)
    calls = []
    arrows = []
    for number, chart in enumerate(works.charts):
        calls.append([charges.get(("call", number, place), 0) for place in range(len(chart.costs))])
        arrows.append([charges[("arrow", number, arrow)] for arrow in range(len(chart.arrows))])
    return WorkMeter(works, leads[0][0], calls, arrows)
