"""Charts for the tests, plain going through all runs and rings, and wrong values of each kind."""

import random

from purseahead.charts import Chart
from purseahead.meters import Meter

COSTS = (2, 3, 4, 1)
ARROWS = ((0, 1), (1, 0), (0, 2), (2, 0), (0, 3))
# What is no whole number, whatever the range is.
NO_NUMBERS = (True, False, "1", "", None, (), [1], {}, b"1")
NO_SEQUENCES = (None, 7, True, "01", b"01", {}, {0: 1}, {0, 1})


def example():
    """The chart of the document's examples."""
    return Chart(COSTS, ARROWS)


def example_meter(first=6, charges=(0, 5, 0, 6, 0)):
    return Meter(example(), first, charges)


def ladder():
    """16 places and 32 arrows: two arrows from each place to the next, the last one back to place 0."""
    arrows = [(place, (place + 1) % 16) for place in range(16) for _ in range(2)]
    return Chart([1] * 16, arrows)


def dense():
    """16 places and 32 arrows with many simple runs and rings: each place leads one and three further."""
    arrows = [(place, (place + by) % 16) for place in range(16) for by in (1, 3)]
    return Chart(list(range(16)), arrows)


def line(count, costs=None):
    """A chart of places in a row, without a ring."""
    return Chart(costs or [1] * count, [(place, place + 1) for place in range(count - 1)])


def loop():
    """One place with one arrow from it to itself."""
    return Chart([1], [(0, 0)])


def random_chart(source, most_places=5, most_arrows=7, most_cost=4):
    """A small chart that hangs together from place 0."""
    count = source.randint(1, most_places)
    arrows = [(source.randrange(place), place) for place in range(1, count)]
    for _ in range(source.randint(0, max(0, most_arrows - len(arrows)))):
        arrows.append((source.randrange(count), source.randrange(count)))
    source.shuffle(arrows)
    return Chart([source.randint(0, most_cost) for _ in range(count)], arrows)


def random_meter(source, most_charge=6, **sizes):
    chart = random_chart(source, **sizes)
    return Meter(chart, source.randint(0, most_charge), [source.randint(0, most_charge) for _ in chart.arrows])


def even_meter(source, **sizes):
    """A meter with even leads, covered or not: its charges follow leads that were drawn first."""
    while True:
        chart = random_chart(source, **sizes)
        leads = [source.randint(0, 9) for _ in chart.costs]
        charges = [leads[head] - leads[tail] + chart.costs[tail] for tail, head in chart.arrows]
        if all(charge >= 0 for charge in charges):
            return Meter(chart, leads[0], charges)


def sources(count):
    return [random.Random(seed) for seed in range(count)]


def plain_runs(chart, length):
    """All runs of that length, by going on from all shorter ones."""
    runs = [()]
    for _ in range(length):
        runs = [run + (arrow,) for run in runs for arrow, ends in enumerate(chart.arrows)
                if ends[0] == end_of(chart, run)]
    return sorted(runs)


def end_of(chart, run):
    return chart.arrows[run[-1]][1] if run else 0


def visits(chart, run):
    return [0] + [chart.arrows[arrow][1] for arrow in run]


def simple_runs(chart):
    """All runs that pass no place twice, by length and then ascending."""
    runs = [run for length in range(len(chart.costs)) for run in plain_runs(chart, length)]
    return [run for run in runs if len(set(visits(chart, run))) == len(run) + 1]


def simple_rings(chart):
    """All simple rings, each from its least place on, in the order of rings_of."""
    rings = []

    def go_on(start, place, passed, ring):
        for arrow, (tail, head) in enumerate(chart.arrows):
            if tail == place and head == start:
                rings.append((start, ring + (arrow,)))
            elif tail == place and head > start and head not in passed:
                go_on(start, head, passed | {head}, ring + (arrow,))

    for start in range(len(chart.costs)):
        go_on(start, start, {start}, ())
    return [ring for _, ring in sorted(rings)]


def plain_lead(meter, run):
    """The lead ahead of the run's last place, counted visit by visit."""
    lead = meter.first
    place = 0
    for arrow in run:
        tail, head = meter.chart.arrows[arrow]
        assert tail == place
        lead = lead - meter.chart.costs[tail] + meter.charges[arrow]
        place = head
    return lead


def ring_gain(meter, ring):
    return sum(meter.charges[arrow] - meter.chart.costs[meter.chart.arrows[arrow][0]] for arrow in ring)


def all_lots(chart):
    """All lots of the chart."""
    lots = [()]
    for arrow in range(len(chart.arrows)):
        lots = lots + [lot + (arrow,) for lot in lots]
    return sorted(lots)


def is_deep_tuple(value):
    """Whether no list is in a value, however deep."""
    if isinstance(value, tuple):
        return all(is_deep_tuple(item) for item in value)
    return not isinstance(value, (list, dict, set))


def told(error):
    """The class and the attributes of an error."""
    return (type(error), vars(error))


class Raises:
    """Mixed into test cases: checks of errors with all of their attributes."""

    def refuses(self, error, attributes, work, *arguments):
        with self.assertRaises(error) as caught:
            found = work(*arguments)
            # A generator may wait with its error until its first item is asked for.
            next(iter(found))
        self.assertEqual(told(caught.exception), (error, attributes))
