"""Places that get a twin, so that runs come to the one or to the other, and what that helps."""

from purseahead.charts import MOST_ARROWS, MOST_PLACES, Chart, check_place, first_unreached
from purseahead.checking import check_many
from purseahead.errors import BadCopy, Unlike
from purseahead.evenness import BadWalk, check_lot, lots_by_number
from purseahead.leastmeters import least_even
from purseahead.meters import Meter
from purseahead.runs import check_run

MOST_SEARCHED = 6


class Copy:
    def __init__(self, source, chart, place, origins):
        self.source = source
        self.chart = chart
        self.place = place
        self.origins = origins

    def __eq__(self, other):
        return (isinstance(other, Copy) and self.source == other.source and self.chart == other.chart
                and self.place == other.place and self.origins == other.origins)


class BestCopy:
    def __init__(self, place, arrows, greatest):
        self.place = place
        self.arrows = arrows
        self.greatest = greatest

    def __eq__(self, other):
        return (isinstance(other, BestCopy) and self.place == other.place
                and self.arrows == other.arrows and self.greatest == other.greatest)


def turned_arrows(chart, lot):
    """The arrows of the chart, those of the lot to the twin."""
    twin = len(chart.costs)
    arrows = []
    for arrow, (tail, head) in enumerate(chart.arrows):
        if arrow in lot:
            arrows.append((tail, twin))
        else:
            arrows.append((tail, head))
    return arrows


def copied_arrows(chart, place, lot):
    """All arrows behind the copy: the old ones, then those out of the twin."""
    arrows = turned_arrows(chart, lot)
    added = [(len(chart.costs), arrows[arrow][1]) for arrow in chart.outs(place)]
    return [*arrows, *added]


def is_cut_off(chart, arrows):
    """Whether a place could not be reached any more along these arrows; the twin always can be."""
    return first_unreached(len(chart.costs) + 1, arrows) is not None


def check_copy(chart, place, lot):
    """Raise BadCopy if the place cannot get a twin to which the arrows of the lot lead."""
    if not lot:
        raise BadCopy("empty", 0)
    for arrow in lot:
        if chart.arrows[arrow][1] != place:
            raise BadCopy("into", arrow)
    if len(chart.costs) == MOST_PLACES:
        raise BadCopy("places", 0)
    arrows = copied_arrows(chart, place, lot)
    if len(arrows) > MOST_ARROWS:
        raise BadCopy("arrows", 0)
    if is_cut_off(chart, arrows):
        raise BadCopy("reached", place)


def copy_of(chart, place, lot):
    arrows = copied_arrows(chart, place, lot)
    origins = (*list(range(len(chart.arrows))), *chart.outs(place))
    return Copy(chart, Chart((*chart.costs, chart.costs[place]), arrows), place, origins)


def copied(chart, place, lot):
    """The Copy in which the arrows of the lot lead to a twin of the place."""
    check_place(chart, place)
    checked = check_lot(chart, lot)
    check_copy(chart, place, checked)
    return copy_of(chart, place, checked)


def lead_run(copy, run):
    """The run of the new chart whose arrows stand for those of a run of the source."""
    place = 0
    way = []
    for origin in check_run(copy.source, run):
        fitting = [arrow for arrow in copy.chart.outs(place) if copy.origins[arrow] == origin]
        way.append(fitting[0])
        place = copy.chart.arrows[fitting[0]][1]
    return tuple(way)


def lead_back(copy, run):
    """The run of the source for whose arrows those of a run of the new chart stand."""
    return tuple([copy.origins[arrow] for arrow in check_run(copy.chart, run)])


def lifted_lot(copy, lot):
    """The arrows of the new chart that stand for arrows of the lot."""
    checked = check_lot(copy.source, lot)
    return tuple([arrow for arrow, origin in enumerate(copy.origins) if origin in checked])


def lifted_meter(copy, meter):
    """The meter of the new chart in which each arrow charges what its origin charges."""
    if meter.chart != copy.source:
        raise Unlike("charts")
    return Meter(copy.chart, meter.first, [meter.charges[origin] for origin in copy.origins])


def greatest_least(chart, lot):
    """The greatest of the least even leads of the lot, or None if it has a bad walk."""
    found = least_even(chart, lot)
    if isinstance(found, BadWalk):
        return None
    return max(found.leads)


def lots_into(chart, place):
    """The lots of arrows into the place with which it may get a twin, by number of arrows, then ascending."""
    arrows = chart.into(place)
    lots = [tuple([arrows[index] for index in lot]) for lot in lots_by_number(len(arrows)) if lot]
    return [lot for lot in lots if not is_cut_off(chart, copied_arrows(chart, place, lot))]


def best_copy(chart, lot):
    """The first copy with the least greatest lead, or None if none is better than the chart itself."""
    checked = check_lot(chart, lot)
    check_many(len(chart.arrows), MOST_SEARCHED)
    bound = greatest_least(chart, checked)
    best = None
    for place in range(len(chart.costs)):
        for arrows in lots_into(chart, place):
            copy = copy_of(chart, place, arrows)
            greatest = greatest_least(copy.chart, lifted_lot(copy, checked))
            if greatest is not None and (bound is None or greatest < bound):
                bound = greatest
                best = BestCopy(place, arrows, greatest)
    return best
