"""Charts for the tests, plain going through all runs and rings, and wrong values of each kind."""

import itertools
import random

from purseahead.charts import Chart
from purseahead.errors import BadWorks
from purseahead.kinds import KindChart
from purseahead.leastmeters import least_meter
from purseahead.meters import Meter
from purseahead.workleast import EvenWorks, least_even_works
from purseahead.workmeters import meter_from_leads
from purseahead.works import Works, list_marks

COSTS = (2, 3, 4, 1)
ARROWS = ((0, 1), (1, 0), (0, 2), (2, 0), (0, 3))
# What is no whole number, whatever the range is.
NO_NUMBERS = (True, False, "1", "", None, (), [1], {}, b"1")
NO_SEQUENCES = (None, 7, True, "01", b"01", {}, {0: 1}, {0, 1})
WRONG_LIMITS = (-1, 10 ** 15 + 1, *NO_NUMBERS)
WRONG_SPANS = (0, -1, 65, *NO_NUMBERS)
# For the chart of the examples, each with the index that is told.
BAD_RUNS = [(0, wrong) for wrong in NO_SEQUENCES] + [(0, (1,)), (1, [0, 0]), (0, (True,)), (2, (0, 1, 9)), (0, (0,) * 401)]
# Place lots that are none of any chart of three places or more; each with the index that is told.
BAD_PLACE_LOTS = [(0, wrong) for wrong in NO_SEQUENCES] + [(0, (-1,)), (0, (16,)), (1, [0, True]), (1, (1, 1)),
                                                           (2, (0, 2, 1)), (0, ("0",)), (1, (0, None, None))]
# Lots that are none of any chart of three arrows or more; each with the index that is told.
BAD_LOTS = [(0, wrong) for wrong in NO_SEQUENCES] + [(0, (-1,)), (0, (99,)), (1, [0, True]), (1, (1, 1)), (2, (0, 2, 1)),
                                                     (0, ("0",)), (1, (0, None, None)), (1, (1, 0, 99))]
SMALL = {"most_places": 3, "most_arrows": 4, "most_cost": 3}


def example():
    """The chart of the document's examples."""
    return Chart(COSTS, ARROWS)


def example_meter(first=6, charges=(0, 5, 0, 6, 0)):
    return Meter(example(), first, charges)


def uneven():
    """No even meter."""
    return example_meter(6, (0, 5, 0, 7, 0))


def uncovered():
    """An even meter that is not covered."""
    return example_meter(5)


def ladder():
    """16 places and 32 arrows: two arrows from each place to the next, the last one back to place 0."""
    arrows = [(place, (place + 1) % 16) for place in range(16) for _ in range(2)]
    return Chart([1] * 16, arrows)


def dense():
    """16 places and 32 arrows with many simple runs and rings: each place leads one and three further."""
    arrows = [(place, (place + by) % 16) for place in range(16) for by in (1, 3)]
    return Chart(list(range(16)), arrows)


def line(count, costs=None):
    """A chart of places in a row, without a ring."""
    return Chart(costs or [1] * count, [(place, place + 1) for place in range(count - 1)])


def loop():
    """One place with one arrow from it to itself."""
    return Chart([1], [(0, 0)])


def random_chart(source, most_places=5, most_arrows=7, most_cost=4):
    """A small chart that hangs together from place 0."""
    count = source.randint(1, most_places)
    arrows = [(source.randrange(place), place) for place in range(1, count)]
    for _ in range(source.randint(0, max(0, most_arrows - len(arrows)))):
        arrows.append((source.randrange(count), source.randrange(count)))
    source.shuffle(arrows)
    return Chart([source.randint(0, most_cost) for _ in range(count)], arrows)


def random_meter(source, most_charge=6, **sizes):
    chart = random_chart(source, **sizes)
    return Meter(chart, source.randint(0, most_charge), [source.randint(0, most_charge) for _ in chart.arrows])


def even_meter(source, **sizes):
    """A meter with even leads, covered or not: its charges follow leads that were drawn first."""
    while True:
        chart = random_chart(source, **sizes)
        leads = [source.randint(0, 9) for _ in chart.costs]
        charges = [leads[head] - leads[tail] + chart.costs[tail] for tail, head in chart.arrows]
        if all(charge >= 0 for charge in charges):
            return Meter(chart, leads[0], charges)


def metered(source, most_extra=6, **sizes):
    """An even and covered meter: its leads are the costs and something more, where the charges let it."""
    while True:
        chart = random_chart(source, **sizes)
        leads = [cost + source.randint(0, most_extra) for cost in chart.costs]
        charges = [leads[head] - leads[tail] + chart.costs[tail] for tail, head in chart.arrows]
        if all(charge >= 0 for charge in charges):
            return Meter(chart, leads[0], charges)


def least_metered(source, **sizes):
    """The meter of the least leads of a lot, so that many arrows charge nothing."""
    while True:
        chart = random_chart(source, **sizes)
        lot = [arrow for arrow in range(len(chart.arrows)) if source.random() < 0.5]
        meter = least_meter(chart, lot)
        if isinstance(meter, Meter):
            return meter


def rising_metered(source, **sizes):
    """An even and covered meter whose first charge is more than it needs."""
    meter = least_metered(source, **sizes)
    return meter.with_first(meter.first + source.randint(0, 3))


def moved_pair(source, most_charge=6, **sizes):
    """Two meters of one chart with drops: the second one has leads that are less by some number at each place."""
    while True:
        meter = random_meter(source, most_charge, **sizes)
        drops = [source.choice((0, 0, 1, 2, 3, -1, -2, -3)) for _ in meter.chart.costs]
        charges = [charge - drops[head] + drops[tail] for charge, (tail, head) in zip(meter.charges, meter.chart.arrows)]
        if min([meter.first - drops[0], *charges]) >= 0:
            return meter, Meter(meter.chart, meter.first - drops[0], charges), tuple(drops)


def some_pairs(count, **sizes):
    """Couples of meters of one chart with their drops."""
    return [moved_pair(source, **{"most_places": 5, "most_arrows": 6, **sizes}) for source in sources(count)]


def some_metered(count, **sizes):
    """Even and covered meters of several makes."""
    makes = (metered, least_metered, rising_metered)
    return [makes[at % 3](source, **sizes) for at, source in enumerate(sources(count))]


def place_subsets(count):
    """All ascending tuples of numbers below count."""
    found = [()]
    for number in range(count):
        found = found + [subset + (number,) for subset in found]
    return sorted(found, key=lambda subset: (len(subset), subset))


def runs_up_to(chart, length):
    return [run for many in range(length + 1) for run in plain_runs(chart, many)]


def plain_places(chart, run, limit):
    """The number of places that plain counting uses."""
    used = 0
    for number, place in enumerate(visits(chart, run)):
        if used + chart.costs[place] > limit:
            return number
        used += chart.costs[place]
    return len(run) + 1


def limits_of(meter, run):
    """Every limit at which something changes along a run, and one less, and some beyond."""
    limits = {0, 1}
    used, paid = 0, meter.first
    limits |= {paid, paid - 1}
    for number, place in enumerate(visits(meter.chart, run)):
        used += meter.chart.costs[place]
        if number:
            paid += meter.charges[run[number - 1]]
        limits |= {used, used - 1, used + 1, paid, paid - 1, paid + 1}
    return sorted(limit for limit in limits if limit >= 0)


def sources(count):
    return [random.Random(seed) for seed in range(count)]


def plain_runs(chart, length):
    """All runs of that length, by going on from all shorter ones."""
    runs = [()]
    for _ in range(length):
        runs = [run + (arrow,) for run in runs for arrow, ends in enumerate(chart.arrows)
                if ends[0] == end_of(chart, run)]
    return sorted(runs)


def end_of(chart, run):
    return chart.arrows[run[-1]][1] if run else 0


def visits(chart, run):
    return [0] + [chart.arrows[arrow][1] for arrow in run]


def simple_runs(chart):
    """All runs that pass no place twice, by length and then ascending."""
    runs = [run for length in range(len(chart.costs)) for run in plain_runs(chart, length)]
    return [run for run in runs if len(set(visits(chart, run))) == len(run) + 1]


def simple_rings(chart):
    """All simple rings, each from its least place on, in the order of rings_of."""
    rings = []

    def go_on(start, place, passed, ring):
        for arrow, (tail, head) in enumerate(chart.arrows):
            if tail == place and head == start:
                rings.append((start, ring + (arrow,)))
            elif tail == place and head > start and head not in passed:
                go_on(start, head, passed | {head}, ring + (arrow,))

    for start in range(len(chart.costs)):
        go_on(start, start, {start}, ())
    return [ring for _, ring in sorted(rings)]


def plain_lead(meter, run):
    """The lead ahead of the run's last place, counted visit by visit."""
    lead = meter.first
    place = 0
    for arrow in run:
        tail, head = meter.chart.arrows[arrow]
        assert tail == place
        lead = lead - meter.chart.costs[tail] + meter.charges[arrow]
        place = head
    return lead


def ring_gain(meter, ring):
    return sum(meter.charges[arrow] - meter.chart.costs[meter.chart.arrows[arrow][0]] for arrow in ring)


def all_lots(chart):
    """All lots of the chart."""
    lots = [()]
    for arrow in range(len(chart.arrows)):
        lots = lots + [lot + (arrow,) for lot in lots]
    return sorted(lots)


KIND_ROWS = ((1, 0), (0, 2), (0, 0))
KIND_ARROWS = ((0, 1), (1, 2), (0, 2))


def sample_kinds():
    """The kind chart of the document's example in part 7."""
    return KindChart(KIND_ROWS, KIND_ARROWS)


def ring_kinds():
    """The example chart with two kinds, the second one the number of visits."""
    return KindChart([(cost, 1) for cost in example().costs], example().arrows)


def random_kinds(source, kinds, most_number=3, **sizes):
    chart = random_chart(source, **sizes)
    return KindChart([[source.randint(0, most_number) for _ in range(kinds)] for _ in chart.costs], chart.arrows)


def sample_works():
    """The works of the document's example: procedure 0 calls procedure 1, which has two ends."""
    return Works([Chart([2, 3], [(0, 1)]), Chart([5, 1, 4], [(0, 1), (0, 2)])], [(1, None), (None, None, None)])


def calling_ring():
    """Two procedures that call each other, each with a way around the call; procedure 0 calls itself, too."""
    one = Chart([1, 2, 0, 3], [(0, 1), (0, 2), (1, 3), (2, 1), (2, 3)])
    two = Chart([2, 1, 1], [(0, 1), (1, 2), (0, 2)])
    return Works([one, two], [(None, 1, 0, None), (None, 0, None)])


def deep_works():
    """Four procedures, each of which calls the next one several times: long ways, but no ring of calls."""
    charts = [line(4), line(3), line(3), line(3)]
    return Works(charts, [(1, 1, 1, None), (2, 2, None), (3, 3, None), (None, None, None)])


def random_works(source, most_procedures=3, **sizes):
    """Small works with calls drawn anywhere, also rings of them."""
    many = source.randint(1, most_procedures)
    while True:
        charts = [random_chart(source, **sizes) for _ in range(many)]
        calls = [[None if place in chart.ends or source.random() < 0.5 else source.randrange(len(charts))
                  for place in range(len(chart))] for chart in charts]
        if source.random() < 0.5:
            # Rings of calls of one procedure alone are frequent enough.
            calls = [[None if called == at else called for called in row] for at, row in enumerate(calls)]
        try:
            return Works(charts, calls)
        except BadWorks:
            continue


def some_works(count, **sizes):
    """The works by name and random ones."""
    sizes = {"most_places": 3, "most_arrows": 4, "most_cost": 3, **sizes}
    return [sample_works(), calling_ring(), *[random_works(source, **sizes) for source in sources(count)]]


class Trail:
    """A run of works, gone step by step: its visits, its marks, and where it stands."""

    def __init__(self, works, pending=(), point=(0, 0), returned=False, steps=(), marks=(), visits=((0, 0),)):
        self.works = works
        self.pending, self.point, self.returned = pending, point, returned
        self.steps, self.marks, self.visits = steps, marks, visits

    def further(self, step, mark, pending, point):
        returned = step == ("return",)
        visits = self.visits if returned else self.visits + (point,)
        return Trail(self.works, pending, point, returned, self.steps + (step,), self.marks + (mark,), visits)

    def goings(self):
        """The trails with one step more, in ascending order."""
        procedure, place = self.point
        chart, called = self.works.charts[procedure], self.works.calls[procedure][place]
        if called is not None and not self.returned:
            return [self.further(("call",), ("call", *self.point), self.pending + (self.point,), (called, 0))]
        if all(tail != place for tail, _ in chart.arrows):
            if not self.pending:
                return []
            return [self.further(("return",), ("end", *self.point), self.pending[:-1], self.pending[-1])]
        return [self.further(("arrow", arrow), ("arrow", procedure, arrow), self.pending, (procedure, head))
                for arrow, (tail, head) in enumerate(chart.arrows) if tail == place]


def trails(works, length, start=(0, 0)):
    """The trails of all runs of that many steps, ascending."""
    return [trail for trail in trails_up_to(works, length, start) if len(trail.steps) == length]


def trails_up_to(works, length, start=(0, 0)):
    """The trails of all runs of up to that many steps, by length, then ascending; from another point, if it is told."""
    found = [[Trail(works, point=start, visits=(start,))]]
    for _ in range(length):
        found.append([further for trail in found[-1] for further in trail.goings()])
    return [trail for row in found for trail in row]


def trail_along(works, steps):
    """The trail of a run that is told by its steps."""
    trail = Trail(works)
    for step in steps:
        trail = {further.steps[-1]: further for further in trail.goings()}[step]
    return trail


def least_work_meter(source, works, more=0):
    """The meter of the least leads of a lot of the works, each lead by so much more."""
    marks = [mark for mark in list_marks(works) if mark[0] != "end"]
    while True:
        lot = [mark for mark in marks if source.random() < 0.6]
        found = least_even_works(works, lot)
        if isinstance(found, EvenWorks):
            return meter_from_leads(works, [[lead + more for lead in row] for row in found.leads])


def some_work_meters(count, **sizes):
    """Even and covered meters of works, one or two for each."""
    meters = []
    for source, works in zip(sources(count + 2), some_works(count, **sizes)):
        meters.append(least_work_meter(source, works))
        meters.append(least_work_meter(source, works, source.randint(1, 3)))
    return meters


def mark_charge(meter, mark):
    kind, number, item = mark
    if kind == "end":
        return 0
    return meter.arrows[number][item] if kind == "arrow" else meter.calls[number][item]


def trail_leads(meter, trail):
    """The lead ahead of each visit of a trail, counted step by step."""
    works, leads = meter.works, [meter.first]
    visits = iter(trail.visits)
    number, place = next(visits)
    behind = meter.first - works.charts[number].costs[place]
    for mark in trail.marks:
        if mark[0] != "end":
            number, place = next(visits)
            leads.append(behind + mark_charge(meter, mark))
            behind = leads[-1] - works.charts[number].costs[place]
    return leads


def deeds_of(lane, run):
    return [] if run is None else [("begin", lane), *[("take", lane, arrow) for arrow in run]]


def plain_weaves(runs):
    """All weaves of lane runs, by all orders of the deeds' lanes."""
    rows = [deeds_of(lane, run) for lane, run in enumerate(runs)]
    orders = sorted(set(itertools.permutations([lane for lane, row in enumerate(rows) for _ in row])))
    weaves = []
    for order in orders:
        left = [list(row) for row in rows]
        weaves.append(tuple(left[lane].pop(0) for lane in order))
    return weaves


def is_deep_tuple(value):
    """Whether no list is in a value, however deep."""
    if isinstance(value, tuple):
        return all(is_deep_tuple(item) for item in value)
    return not isinstance(value, (list, dict, set))


def told(error):
    """The class and the attributes of an error."""
    return (type(error), vars(error))


class Raises:
    """Mixed into test cases: checks of errors with all of their attributes."""

    def refuses(self, error, attributes, work, *arguments):
        with self.assertRaises(error) as caught:
            found = work(*arguments)
            # A generator may wait with its error until its first item is asked for.
            next(iter(found))
        self.assertEqual(told(caught.exception), (error, attributes))
