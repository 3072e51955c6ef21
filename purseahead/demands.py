"""Demands on rows of numbers: the least and the greatest rows that meet them, or a ring that forbids them."""

from purseahead.checking import first_misfit, is_row, is_sequence, is_whole_tuple, is_within
from purseahead.errors import BadDemands, BadHighs

MOST_NUMBERS = 60
MOST_DEMANDS = 400
MOST_BY = 10 ** 12


class Least:
    def __init__(self, numbers, reasons):
        self.numbers = numbers
        self.reasons = reasons

    def __eq__(self, other):
        return isinstance(other, Least) and self.numbers == other.numbers and self.reasons == other.reasons


class DemandRing:
    def __init__(self, indexes):
        self.indexes = indexes

    def __eq__(self, other):
        return isinstance(other, DemandRing) and self.indexes == other.indexes


def is_demand(count, value):
    if not is_row(value, 3):
        return False
    place, start, by = value
    if not is_within(place, 0, count - 1):
        return False
    if start is not None and not is_within(start, 0, count - 1):
        return False
    return is_within(by, -MOST_BY, MOST_BY)


def check_demands(count, demands):
    """Return the demands as a tuple of tuples, or raise BadDemands."""
    if not is_within(count, 1, MOST_NUMBERS):
        raise BadDemands("count", 0)
    if not is_sequence(demands) or len(demands) > MOST_DEMANDS:
        raise BadDemands("many", 0)
    for index, demand in enumerate(demands):
        if not is_demand(count, demand):
            raise BadDemands("demand", index)
    checked = tuple([tuple(demand) for demand in demands])
    rooted = [demand[0] for demand in checked if demand[1] is None]
    for place in range(count):
        if place not in rooted:
            raise BadDemands("root", place)
    return checked


def least_numbers(count, demands):
    """The Least row that meets the demands, or a DemandRing if none does."""
    checked = check_demands(count, demands)
    numbers = [None] * count
    came = [None] * count
    for index, (place, start, by) in enumerate(checked):
        if start is None and (numbers[place] is None or by > numbers[place]):
            numbers[place] = by
            came[place] = index
    links = [(place, start, by, index) for index, (place, start, by) in enumerate(checked) if start is not None]
    place = settle(numbers, came, links)
    if place is None:
        return Least(tuple(numbers), tuple(came))
    ring = ring_behind(place, came, links)
    return DemandRing(tuple(reversed(ring)))


def greatest_numbers(count, demands, highs):
    """The greatest row at or below highs that meets the demands with a start, or a DemandRing."""
    checked = check_demands(count, demands)
    wrong = first_misfit(highs, count, -MOST_BY, MOST_BY)
    if wrong is not None:
        raise BadHighs(wrong)
    # With all signs turned round it is the least row, and each demand leads the other way.
    numbers = [-high for high in highs]
    came = [None] * count
    links = [(start, place, by, index) for index, (place, start, by) in enumerate(checked) if start is not None]
    place = settle(numbers, came, links)
    if place is None:
        return tuple([-number for number in numbers])
    return DemandRing(tuple(ring_behind(place, came, links)))


def settle(numbers, came, links):
    """Raise numbers until all links hold; return None, or a place that they never stop to raise.

    came tells for each place the index of the link that has raised it last.
    """
    last = None
    # A row of links that passes no place twice is gone along after fewer passes than there are places.
    for _ in range(len(numbers)):
        last = raise_numbers(numbers, came, links)
        if last is None:
            return None
    return last


def raise_numbers(numbers, came, links):
    """Go through the links once; return the last place that was raised, or None."""
    last = None
    for place, start, by, index in links:
        if numbers[place] < numbers[start] + by:
            numbers[place] = numbers[start] + by
            came[place] = index
            last = place
    return last


def ring_behind(place, came, links):
    """The indexes of a ring of links on the way back from a place that was raised in the last pass."""
    starts = {link[3]: link[1] for link in links}
    # A place that the last pass raised has a way back of a link for each pass, so the way is on a ring by then.
    for _ in range(len(came)):
        place = starts[came[place]]
    ring = [came[place]]
    at = starts[came[place]]
    while at != place:
        ring.append(came[at])
        at = starts[came[at]]
    return ring


def is_met(numbers, demand):
    place, start, by = demand
    if start is None:
        return numbers[place] >= by
    return numbers[place] >= numbers[start] + by


def is_met_equally(numbers, demand):
    place, start, by = demand
    if start is None:
        return numbers[place] == by
    return numbers[place] == numbers[start] + by


def least_fault(count, demands, least):
    """None, or the first of "numbers", "reason", "demand", "met", "ring" that is wrong with a Least."""
    checked = check_demands(count, demands)
    if not is_whole_tuple(least.numbers, count):
        return "numbers"
    if not is_whole_tuple(least.reasons, count) or not are_on_places(checked, least.reasons):
        return "reason"
    if not all([is_met(least.numbers, demand) for demand in checked]):
        return "demand"
    reasons = [checked[index] for index in least.reasons]
    if not all([is_met_equally(least.numbers, demand) for demand in reasons]):
        return "met"
    if not all_rooted([demand[1] for demand in reasons]):
        return "ring"
    return None


def are_on_places(demands, reasons):
    """Whether the reason of each place is the index of a demand on it."""
    last = len(demands) - 1
    for place, index in enumerate(reasons):
        if not is_within(index, 0, last) or demands[index][0] != place:
            return False
    return True


def all_rooted(starts):
    """Whether going from each place to its start, and so on, always leads to a start None."""
    for first in range(len(starts)):
        place = first
        # A way that passes no place twice has come to None by then.
        for _ in range(len(starts)):
            if place is not None:
                place = starts[place]
        if place is not None:
            return False
    return True


def ring_fault(count, demands, ring):
    """None, or the first of "index", "closed", "sum" that is wrong with a DemandRing."""
    checked = check_demands(count, demands)
    if not are_started(checked, ring.indexes):
        return "index"
    links = [checked[index] for index in ring.indexes]
    before = links[-1]
    for link in links:
        if before[0] != link[1]:
            return "closed"
        before = link
    if sum([link[2] for link in links]) <= 0:
        return "sum"
    return None


def are_started(demands, indexes):
    """Whether the value is a tuple of one or more indexes of demands with a start."""
    if not isinstance(indexes, tuple) or not indexes:
        return False
    last = len(demands) - 1
    return all([is_within(index, 0, last) and demands[index][1] is not None for index in indexes])
