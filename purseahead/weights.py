"""Lots of the least weight, shares that show how far others are from it, and the trade of arrows for leads."""

from purseahead.checking import check_many, first_misfit
from purseahead.errors import BadWeights
from purseahead.evenness import BadWalk, lots_by_number
from purseahead.fewest import find_claims, first_even_lots
from purseahead.leastmeters import least_even

MOST_WEIGHT = 10 ** 6
MOST_TRADED = 8


class Cheapest:
    def __init__(self, total, lot):
        self.total = total
        self.lot = lot

    def __eq__(self, other):
        return isinstance(other, Cheapest) and self.total == other.total and self.lot == other.lot


class Shares:
    def __init__(self, shares, spent, total):
        self.shares = shares
        self.spent = spent
        self.total = total

    def __eq__(self, other):
        return (isinstance(other, Shares) and self.shares == other.shares
                and self.spent == other.spent and self.total == other.total)


class Trade:
    def __init__(self, number, greatest, lot):
        self.number = number
        self.greatest = greatest
        self.lot = lot

    def __eq__(self, other):
        return (isinstance(other, Trade) and self.number == other.number
                and self.greatest == other.greatest and self.lot == other.lot)


def check_weights(chart, weights):
    """Return the weights as a tuple, or raise BadWeights."""
    wrong = first_misfit(weights, len(chart.arrows), 0, MOST_WEIGHT)
    if wrong is not None:
        raise BadWeights(wrong)
    return tuple(weights)


def weight_of(weights, lot):
    return sum([weights[arrow] for arrow in lot])


def cheapest(chart, weights, *, most=None):
    """The even lot of the least weight; of these the first, by number of arrows, then ascending."""
    checked = check_weights(chart, weights)
    claims = find_claims(chart, most=most)
    # A lot that is not least weighs as much as a smaller one or more, so the least lots are enough.
    lots = first_even_lots(chart, claims)
    total = min([weight_of(checked, lot) for lot in lots])
    lightest = [lot for lot in lots if weight_of(checked, lot) == total]
    return Cheapest(total, lightest[0])


def share_out(chart, weights, *, most=None):
    """The shares of the least claims, each taken from what the claim's arrows have left of their weights."""
    left = list(check_weights(chart, weights))
    shares = []
    for claim in find_claims(chart, most=most):
        share = min([left[arrow] for arrow in claim.arrows])
        for arrow in claim.arrows:
            left[arrow] = left[arrow] - share
        if share > 0:
            shares.append((claim.arrows, share))
    spent = tuple([arrow for arrow, weight in enumerate(left) if weight == 0])
    return Shares(tuple(shares), spent, sum([share for arrows, share in shares]))


def greatest_lead(chart, lot):
    """The greatest of the least leads of the lot, or None if it is not even."""
    found = least_even(chart, lot)
    if isinstance(found, BadWalk):
        return None
    return max(found.leads)


def rated_lots(chart):
    """For each even lot the tuple of its number of arrows, its greatest lead and itself."""
    rated = []
    for lot in lots_by_number(len(chart.arrows)):
        greatest = greatest_lead(chart, lot)
        if greatest is not None:
            rated.append((len(lot), greatest, lot))
    return rated


def trade_front(chart):
    """A Trade for each number of arrows with which a lot has a lesser greatest lead than with fewer arrows."""
    check_many(len(chart.arrows), MOST_TRADED)
    front = []
    for number, greatest, lot in sorted(rated_lots(chart)):
        if not front or greatest < front[-1].greatest:
            front.append(Trade(number, greatest, lot))
    return tuple(front)
