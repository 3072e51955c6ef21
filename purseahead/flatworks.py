"""Works as charts: flat, where a return may go to any caller, and spread, where each call has its own copy."""

from purseahead.charts import Chart
from purseahead.checking import check_many
from purseahead.errors import RingOfCalls
from purseahead.leads import high_leads, low_leads
from purseahead.meters import Meter
from purseahead.runs import check_run
from purseahead.workleast import check_work_lot
from purseahead.workmeters import charge_of
from purseahead.workruns import marks_along, step_of
from purseahead.works import by_procedure, cost_of, find_call_ring, link_of, list_marks, list_points, list_spots

MOST_PLACES = 16
MOST_ARROWS = 32


class Flat:
    def __init__(self, chart, spots, marks):
        self.chart = chart
        self.spots = spots
        self.marks = marks

    def __eq__(self, other):
        return (isinstance(other, Flat) and self.chart == other.chart
                and self.spots == other.spots and self.marks == other.marks)


class Spread:
    def __init__(self, chart, spots, copies, marks):
        self.chart = chart
        self.spots = spots
        self.copies = copies
        self.marks = marks

    def __eq__(self, other):
        return (isinstance(other, Spread) and self.chart == other.chart and self.spots == other.spots
                and self.copies == other.copies and self.marks == other.marks)


def flatten_works(works):
    """The Flat chart with a place for each spot and an arrow for each mark."""
    spots = list_spots(works)
    marks = list_marks(works)
    links = [link_of(works, mark) for mark in marks]
    arrows = [(spots.index(start), spots.index(end)) for start, end in links]
    return Flat(Chart([cost_of(works, spot) for spot in spots], arrows), spots, marks)


def flat_run(works, steps):
    """The arrows of the flat chart along which the steps go."""
    numbers = {mark: number for number, mark in enumerate(list_marks(works))}
    return tuple([numbers[mark] for mark in marks_along(works, steps)])


def steps_of_run(works, run):
    """The steps of a run of the flat chart, or None if it is not well nested."""
    checked = check_run(flatten_works(works).chart, run)
    marks = list_marks(works)
    pending = []
    caller = None
    for arrow in checked:
        kind, number, item = marks[arrow]
        if caller is not None and (number, works.charts[number].arrows[item][0]) != caller:
            return None
        caller = None
        if kind == "call":
            pending.append((number, item))
        if kind == "end":
            if not pending:
                return None
            caller = pending.pop()
    return tuple([step_of(marks[arrow]) for arrow in checked])


def flat_lot(works, lot):
    """The arrows of the flat chart that stand for the marks of the lot."""
    marks = list_marks(works)
    return tuple([marks.index(mark) for mark in check_work_lot(works, lot)])


def flat_meter(meter):
    """The meter of the flat chart that charges each arrow what its mark charges."""
    flat = flatten_works(meter.works)
    return Meter(flat.chart, meter.first, [charge_of(meter, mark) for mark in flat.marks])


def list_copies(works):
    """The procedure of each copy, and for each copy and call point of its procedure the copy that is called."""
    copies = [0]
    called = {}
    done = 0
    while done < len(copies):
        row = works.calls[copies[done]]
        for place, procedure in enumerate(row):
            if procedure is not None:
                called[(done, place)] = len(copies)
                copies.append(procedure)
        done = done + 1
    return (copies, called)


def copied_spots(works, copies):
    """The places of the spread chart, each as the number of its copy and its spot."""
    places = []
    for copy, procedure in enumerate(copies):
        places = [*places, *[(copy, point) for point in list_points(works) if point[0] == procedure]]
        if copy > 0:
            places.append((copy, (procedure, None)))
    return places


def copied_marks(works, copies):
    """The arrows of the spread chart, each as the number of its copy and its mark."""
    marks = []
    for copy, procedure in enumerate(copies):
        own = [mark for mark in list_marks(works) if mark[1] == procedure]
        marks = [*marks, *[(copy, mark) for mark in own]]
    return marks


def copied_link(works, called, copy, mark):
    """The places from which and to which an arrow of the spread chart leads, each as a copy and a spot."""
    kind, number, item = mark
    start, end = link_of(works, mark)
    if kind == "call":
        return ((copy, start), (called[(copy, item)], end))
    if start[1] is None:
        # Only an arrow leads on from a return place: from that of the copy that its tail calls.
        tail = works.charts[number].arrows[item][0]
        return ((called[(copy, tail)], start), (copy, end))
    return ((copy, start), (copy, end))


def spread_works(works):
    """The Spread chart, whose runs are just the well-nested runs."""
    ring = find_call_ring(works)
    if ring is not None:
        raise RingOfCalls(ring)
    copies, called = list_copies(works)
    places = copied_spots(works, copies)
    marks = copied_marks(works, copies)
    check_many(len(places), MOST_PLACES)
    check_many(len(marks), MOST_ARROWS)
    links = [copied_link(works, called, copy, mark) for copy, mark in marks]
    arrows = [(places.index(start), places.index(end)) for start, end in links]
    chart = Chart([cost_of(works, spot) for copy, spot in places], arrows)
    spots = tuple([spot for copy, spot in places])
    return Spread(chart, spots, tuple([copy for copy, spot in places]), tuple([mark for copy, mark in marks]))


def spread_run(works, steps):
    """The arrows of the spread chart along which the steps go."""
    spread = spread_works(works)
    place = 0
    run = []
    for mark in marks_along(works, steps):
        fitting = [arrow for arrow in spread.chart.outs(place) if spread.marks[arrow] == mark]
        run.append(fitting[0])
        place = spread.chart.arrows[fitting[0]][1]
    return tuple(run)


def spread_meter(meter):
    """The meter of the spread chart that charges each arrow what its mark charges."""
    spread = spread_works(meter.works)
    return Meter(spread.chart, meter.first, [charge_of(meter, mark) for mark in spread.marks])


def leads_by_point(works, leads):
    """For each point the leads ahead of its places on the spread chart."""
    found = {point: [] for point in list_points(works)}
    for spot, lead in zip(spread_works(works).spots, leads):
        if spot[1] is not None:
            found[spot].append(lead)
    return found


def work_lows(meter):
    """The least lead ahead of each point over all well-nested runs, a row for each procedure."""
    found = leads_by_point(meter.works, low_leads(spread_meter(meter)))
    return by_procedure(meter.works, {point: min(leads) for point, leads in found.items()})


def work_highs(meter):
    """The greatest lead ahead of each point over all well-nested runs, a row for each procedure."""
    found = leads_by_point(meter.works, high_leads(spread_meter(meter)))
    return by_procedure(meter.works, {point: max(leads) for point, leads in found.items()})
