"""Lots of places: all arrows into a place of the lot charge alike, the other arrows charge nothing."""

from purseahead.charts import Chart, is_arrow, is_place
from purseahead.checking import check_many, is_sequence
from purseahead.errors import BadPlaces
from purseahead.evenness import Even, is_step, lot_demands, lots_by_number, step_ends, walk_sum
from purseahead.leastmeters import least_of

MOST_PLACES = 16
MOST_ARROWS = 32
MOST_SEARCHED = 8


class Gathered:
    def __init__(self, chart, entries):
        self.chart = chart
        self.entries = entries

    def __eq__(self, other):
        return isinstance(other, Gathered) and self.chart == other.chart and self.entries == other.entries


class FewestPlaces:
    def __init__(self, number, places):
        self.number = number
        self.places = places

    def __eq__(self, other):
        return isinstance(other, FewestPlaces) and self.number == other.number and self.places == other.places


def check_places(chart, places):
    """Return the place lot as a tuple, or raise BadPlaces."""
    if not is_sequence(places):
        raise BadPlaces(0)
    before = -1
    for index, place in enumerate(places):
        if not is_place(chart, place) or place <= before:
            raise BadPlaces(index)
        before = place
    return tuple(places)


def arrows_into(chart, places):
    """The arrows whose heads are among the places, ascending."""
    return [arrow for arrow, ends in enumerate(chart.arrows) if ends[1] in places]


def side_gain(chart, arrow, other):
    """What a side step adds: the cost of the tail of other less that of the tail of arrow."""
    return chart.costs[chart.arrows[other][0]] - chart.costs[chart.arrows[arrow][0]]


def side_demands(chart):
    """Demands that all arrows with one head leave their tails with like leads behind."""
    reasoned = []
    for place in range(len(chart.costs)):
        arrows = arrows_into(chart, [place])
        # A ring of them says as much as all couples would, and those could be too many.
        for arrow, other in zip(arrows, [*arrows[1:], *arrows[:1]]):
            if arrow != other:
                by = side_gain(chart, arrow, other)
                reasoned.append((chart.arrows[other][0], chart.arrows[arrow][0], by, (arrow, "side", other)))
    return reasoned


def least_even_places(chart, places):
    """The Even with the least leads for the place lot, or a BadWalk of place steps."""
    checked = check_places(chart, places)
    lot = arrows_into(chart, checked)
    reasoned = list(lot_demands(chart, lot))
    return least_of(chart, [*reasoned, *side_demands(chart)])


def is_side_step(chart, value):
    if not isinstance(value, tuple) or len(value) != 3 or value[1] != "side":
        return False
    return is_arrow(chart, value[0]) and is_arrow(chart, value[2]) and value[0] != value[2]


def is_place_step(chart, value):
    return is_step(chart, value) or is_side_step(chart, value)


def place_step_ends(chart, step):
    """The places that a place step leaves and comes to."""
    if len(step) == 3:
        return (chart.arrows[step[0]][0], chart.arrows[step[2]][0])
    return step_ends(chart, step)


def place_step_gain(chart, step):
    if len(step) == 3:
        return side_gain(chart, step[0], step[2])
    return walk_sum(chart, (step,))


def are_closed(ends):
    """Whether couples of places are one or more, and each begins where the one before ends, the first too."""
    if not ends:
        return False
    lefts = [left for left, reached in ends]
    reacheds = [reached for left, reached in ends]
    return lefts == [reacheds[-1], *reacheds[:-1]]


def is_sense_right(chart, places, step):
    """Whether a place step goes back along no arrow into the lot, and sideways to one head alone."""
    head = chart.arrows[step[0]][1]
    if len(step) == 3:
        return chart.arrows[step[2]][1] == head
    return step[1] == "forward" or head not in places


def place_walk_fault(chart, places, steps):
    """None, or the first of "step", "closed", "sense", "sum" that is wrong with the steps of a BadWalk."""
    checked = check_places(chart, places)
    if not is_sequence(steps) or not all([is_place_step(chart, step) for step in steps]):
        return "step"
    if not are_closed([place_step_ends(chart, step) for step in steps]):
        return "closed"
    if not all([is_sense_right(chart, checked, step) for step in steps]):
        return "sense"
    if sum([place_step_gain(chart, step) for step in steps]) <= 0:
        return "sum"
    return None


def gathered_chart(chart):
    """The chart in which all arrows into a place meet at an entry, and one arrow leads on from there."""
    count = len(chart.costs)
    entered = [place for place in range(count) if arrows_into(chart, [place])]
    check_many(count + len(entered), MOST_PLACES)
    check_many(len(chart.arrows) + len(entered), MOST_ARROWS)
    entry_places = {place: count + index for index, place in enumerate(entered)}
    gathered = [(tail, entry_places[head]) for tail, head in chart.arrows]
    entries = [None] * count
    for place in entered:
        entries[place] = len(gathered)
        gathered.append((entry_places[place], place))
    return Gathered(Chart((*chart.costs, *[0] * len(entered)), gathered), tuple(entries))


def fewest_places(chart):
    """The first even place lot, by number of places, then ascending."""
    count = len(chart.costs)
    check_many(count, MOST_SEARCHED)
    for places in lots_by_number(count):
        if isinstance(least_even_places(chart, places), Even):
            break
    return FewestPlaces(len(places), places)
