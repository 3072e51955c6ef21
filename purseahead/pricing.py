"""Lots that are even whatever the prices of the kinds are, and prices at which a lot is not even."""

from purseahead.checking import first_misfit, is_row
from purseahead.errors import BadRows, NotEven
from purseahead.evenness import BadWalk, Even, check_lot
from purseahead.kindmeters import KindMeter
from purseahead.leastmeters import least_even

MOST_LEAD = 10 ** 7


class EvenKinds:
    def __init__(self, rows):
        self.rows = rows

    def __eq__(self, other):
        return isinstance(other, EvenKinds) and self.rows == other.rows


class KindWalk:
    def __init__(self, kind, steps):
        self.kind = kind
        self.steps = steps

    def __eq__(self, other):
        return isinstance(other, KindWalk) and self.kind == other.kind and self.steps == other.steps


def least_even_kinds(kindchart, lot):
    """The EvenKinds with the least even leads of each kind, or the KindWalk of the first kind that has none."""
    checked = check_lot(kindchart, lot)
    leads = []
    for kind in range(kindchart.kinds):
        found = least_even(kindchart.of_kind(kind), checked)
        if isinstance(found, BadWalk):
            return KindWalk(kind, found.steps)
        leads.append(found.leads)
    return EvenKinds(tuple(zip(*leads)))


def checked_rows(kindchart, rows):
    """Return the rows of leads as a tuple of tuples, or raise BadRows."""
    if not is_row(rows, len(kindchart.rows)):
        raise BadRows(0)
    for place, row in enumerate(rows):
        if first_misfit(row, kindchart.kinds, 0, MOST_LEAD) is not None:
            raise BadRows(place)
    return tuple([tuple(row) for row in rows])


def charge_row(kindchart, rows, arrow):
    """What an arrow charges by kind: the head's leads less those that are left behind the tail."""
    tail, head = kindchart.arrows[arrow]
    return [to - lead + used for to, lead, used in zip(rows[head], rows[tail], kindchart.rows[tail])]


def kind_meter(kindchart, rows):
    """The meter of kinds whose leads ahead are the rows; NotEven if an arrow would charge below 0."""
    checked = checked_rows(kindchart, rows)
    charges = []
    for arrow in range(len(kindchart.arrows)):
        charge = charge_row(kindchart, checked, arrow)
        if min(charge) < 0:
            raise NotEven(arrow)
        charges.append(charge)
    return KindMeter(kindchart, checked[0], charges)


def even_at(kindchart, lot, prices):
    """Whether the lot is even at these prices."""
    checked = check_lot(kindchart, lot)
    return isinstance(least_even(kindchart.at_prices(prices), checked), Even)


def apart_prices(kindchart, lot):
    """None, or prices at which the lot is not even: 1 for the first such kind, 0 for the others."""
    found = least_even_kinds(kindchart, lot)
    if isinstance(found, EvenKinds):
        return None
    return tuple([int(kind == found.kind) for kind in range(kindchart.kinds)])
