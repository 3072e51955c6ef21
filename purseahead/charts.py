"""Charts: places with costs, and arrows that lead from place to place."""

from purseahead.checking import first_outside, is_row, is_sequence, is_within
from purseahead.errors import BadArrow, BadChart, BadFactor, BadMoves, BadPlace

MOST_PLACES = 16
MOST_ARROWS = 32
MOST_COST = 10 ** 9
MOST_FACTOR = 1000


def is_place(chart, place):
    return is_within(place, 0, len(chart.costs) - 1)


def is_arrow(chart, arrow):
    return is_within(arrow, 0, len(chart.arrows) - 1)


def check_place(chart, place):
    """Return the place, or raise BadPlace."""
    if not is_place(chart, place):
        raise BadPlace(place)
    return place


def check_arrow(chart, arrow):
    """Return the number of an arrow, or raise BadArrow."""
    if not is_arrow(chart, arrow):
        raise BadArrow(arrow)
    return arrow


def checked_costs(costs):
    if not is_sequence(costs) or not 1 <= len(costs) <= MOST_PLACES:
        raise BadChart("places", 0)
    index = first_outside(costs, 0, MOST_COST)
    if index is not None:
        raise BadChart("cost", index)
    return tuple(costs)


def is_couple_of_places(value, count):
    return is_row(value, 2) and first_outside(value, 0, count - 1) is None


def checked_arrows(arrows, count):
    """Return the arrows of a chart of that many places as a tuple of tuples, or raise BadChart."""
    if not is_sequence(arrows) or len(arrows) > MOST_ARROWS:
        raise BadChart("arrows", 0)
    for index, arrow in enumerate(arrows):
        if not is_couple_of_places(arrow, count):
            raise BadChart("arrow", index)
    return tuple([tuple(arrow) for arrow in arrows])


def first_unreached(count, arrows):
    """The least place that cannot be reached from place 0, or None."""
    reached = [False] * count
    reached[0] = True
    # Each pass but the last reaches a new place, so as many passes as places are enough.
    for _ in range(count):
        for tail, head in arrows:
            if reached[tail]:
                reached[head] = True
    for place in range(count):
        if not reached[place]:
            return place
    return None


class Chart:
    """A program that is counted: the costs of its places, and its arrows as (tail, head)."""

    def __init__(self, costs, arrows):
        self.costs = checked_costs(costs)
        self.arrows = checked_arrows(arrows, len(self.costs))
        place = first_unreached(len(self.costs), self.arrows)
        if place is not None:
            raise BadChart("reached", place)

    def __len__(self):
        return len(self.costs)

    def __iter__(self):
        return iter(self.arrows)

    def __eq__(self, other):
        return isinstance(other, Chart) and self.costs == other.costs and self.arrows == other.arrows

    @property
    def ends(self):
        """The places without an arrow out of them, ascending."""
        tails = [arrow[0] for arrow in self.arrows]
        return tuple([place for place in range(len(self.costs)) if place not in tails])

    def outs(self, place):
        """The numbers of the arrows out of a place, ascending."""
        check_place(self, place)
        return tuple([number for number, arrow in enumerate(self.arrows) if arrow[0] == place])

    def into(self, place):
        """The numbers of the arrows into a place, ascending."""
        check_place(self, place)
        return tuple([number for number, arrow in enumerate(self.arrows) if arrow[1] == place])


def scaled(chart, by):
    """The chart with every cost multiplied by a whole number."""
    if not is_within(by, 0, MOST_FACTOR):
        raise BadFactor()
    return Chart([cost * by for cost in chart.costs], chart.arrows)


def are_moves(chart, moves):
    count = len(chart.costs)
    if not is_row(moves, count) or first_outside(moves, 0, count - 1) is not None:
        return False
    return moves[0] == 0 and sorted(moves) == list(range(count))


def renamed(chart, moves):
    """The chart in which place v is called moves[v]; place 0 keeps its name."""
    if not are_moves(chart, moves):
        raise BadMoves()
    costs = [0] * len(chart.costs)
    for place, cost in enumerate(chart.costs):
        costs[moves[place]] = cost
    return Chart(costs, [(moves[tail], moves[head]) for tail, head in chart.arrows])


def shifted(arrows, by):
    return [(tail + by, head + by) for tail, head in arrows]


def beside(chart, other):
    """Both charts behind a new place 0, whose first two arrows lead to their places 0."""
    second = 1 + len(chart.costs)
    ours = shifted(chart.arrows, 1)
    theirs = shifted(other.arrows, second)
    return Chart((0, *chart.costs, *other.costs), ((0, 1), (0, second), *ours, *theirs))
