"""Limits of prices: closed walks that forbid even leads at some prices, and what they let by."""

from math import gcd

from purseahead.checking import check_many, is_whole_tuple
from purseahead.errors import NotTwo
from purseahead.evenness import are_steps, check_lot, goes_back_along, is_closed, lots_by_number, step_ends
from purseahead.kinds import numbers_of
from purseahead.pricing import EvenKinds, least_even_kinds

MOST_ARROWS = 8
LOWEST = (1, 0)
HIGHEST = (0, 1)


class Limit:
    def __init__(self, row, steps):
        self.row = row
        self.steps = steps

    def __eq__(self, other):
        return isinstance(other, Limit) and self.row == other.row and self.steps == other.steps


class Span:
    def __init__(self, low, high):
        self.low = low
        self.high = high

    def __eq__(self, other):
        return isinstance(other, Span) and self.low == other.low and self.high == other.high


class FewestKinds:
    def __init__(self, number, lot):
        self.number = number
        self.lot = lot

    def __eq__(self, other):
        return isinstance(other, FewestKinds) and self.number == other.number and self.lot == other.lot


def gain_row(kindchart, step):
    """What a step adds by kind: the numbers of its arrow's tail, below 0 for a step forward."""
    arrow, sense = step
    row = kindchart.rows[kindchart.arrows[arrow][0]]
    if sense == "back":
        return row
    return [-number for number in row]


def row_of(kindchart, steps):
    """The row of a walk."""
    rows = [gain_row(kindchart, step) for step in steps]
    return tuple([sum(numbers_of(rows, kind)) for kind in range(kindchart.kinds)])


def free_steps(kindchart, lot):
    """All steps but those back along arrows of the lot."""
    numbers = range(len(kindchart.arrows))
    steps = [(arrow, sense) for arrow in numbers for sense in ("forward", "back")]
    return [step for step in steps if not goes_back_along(lot, step)]


def simple_walks(kindchart, lot):
    """Yield the simple closed walks without a step back along the lot, each from its least place on."""
    free = free_steps(kindchart, lot)
    waiting = [(start, start, (start,), ()) for start in range(len(kindchart.rows))]
    while waiting:
        start, place, passed, steps = waiting.pop()
        for step in free:
            left, reached = step_ends(kindchart, step)
            if left == place and reached == start:
                yield (*steps, step)
            elif left == place and reached > start and reached not in passed:
                waiting.append((start, reached, (*passed, reached), (*steps, step)))


def is_topped(row, rows):
    """Whether the row is at most an unlike one of the rows at every kind."""
    tops = [top for top in rows if top != row]
    return any([all([number <= most for number, most in zip(row, top)]) for top in tops])


def limits_of(kindchart, lot):
    walks = {}
    for steps in simple_walks(kindchart, lot):
        row = row_of(kindchart, steps)
        if max(row) > 0:
            walks[row] = steps
    rows = sorted([row for row in walks if not is_topped(row, walks)])
    return tuple([Limit(row, walks[row]) for row in rows])


def price_limits(kindchart, lot):
    """The limits of the lot by ascending rows, each with a walk that has the row."""
    checked = check_lot(kindchart, lot)
    check_many(len(kindchart.arrows), MOST_ARROWS)
    return limits_of(kindchart, checked)


def limit_fault(kindchart, lot, limit):
    """None, or the first of "step", "closed", "sense", "row" that is wrong with a Limit."""
    checked = check_lot(kindchart, lot)
    if not isinstance(limit.steps, tuple) or not are_steps(kindchart, limit.steps):
        return "step"
    if not is_closed(kindchart.of_kind(0), limit.steps):
        return "closed"
    if any([goes_back_along(checked, step) for step in limit.steps]):
        return "sense"
    if not is_whole_tuple(limit.row, kindchart.kinds) or limit.row != row_of(kindchart, limit.steps):
        return "row"
    return None


def is_lower(one, other):
    """Whether one couple of prices lies below another one: its second price is less for the first one's."""
    return one[1] * other[0] < other[1] * one[0]


def reduced(one, other):
    """A couple of numbers without their common divisor."""
    common = gcd(one, other)
    return (one // common, other // common)


def ratio_span(kindchart, lot):
    """The Span of the prices of two kinds at which the lot is even, or None if it is so at no prices but 0."""
    if kindchart.kinds != 2:
        raise NotTwo(kindchart.kinds)
    low = LOWEST
    high = HIGHEST
    for limit in price_limits(kindchart, lot):
        one, other = limit.row
        if one > 0 and other > 0:
            return None
        if one > 0 and is_lower(low, (-other, one)):
            low = reduced(-other, one)
        if other > 0 and is_lower((other, -one), high):
            high = reduced(other, -one)
    if is_lower(high, low):
        return None
    return Span(low, high)


def fewest_kinds(kindchart):
    """The first lot that is even at all prices, by number of arrows, then ascending."""
    count = len(kindchart.arrows)
    check_many(count, MOST_ARROWS)
    for lot in lots_by_number(count):
        if isinstance(least_even_kinds(kindchart, lot), EvenKinds):
            break
    return FewestKinds(len(lot), lot)
