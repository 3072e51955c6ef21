"""Charges moved over places, and moves that lead from one meter to another one."""

from purseahead.checking import is_within
from purseahead.errors import BadMove, CantMove, Parted, Unlike
from purseahead.meters import MOST_CHARGE, Meter
from purseahead.placelots import check_places
from purseahead.runs import run_to

MOST_MOVE = 10 ** 12


class Apart:
    def __init__(self, place, one, other):
        self.place = place
        self.one = one
        self.other = other

    def __eq__(self, other):
        return (isinstance(other, Apart) and self.place == other.place
                and self.one == other.one and self.other == other.other)


class Stuck:
    def __init__(self, ring):
        self.ring = ring

    def __eq__(self, other):
        return isinstance(other, Stuck) and self.ring == other.ring


def lowered_first(meter, drops):
    """The first charge of the meter whose lead ahead of each place is less by its drop."""
    return meter.first - drops[0]


def lowered_charge(meter, drops, arrow):
    """What an arrow charges in the meter whose lead ahead of each place is less by its drop."""
    tail, head = meter.chart.arrows[arrow]
    return meter.charges[arrow] - drops[head] + drops[tail]


def lowered(meter, drops):
    """The meter whose lead ahead of each place is less by its drop, or CantMove."""
    first = lowered_first(meter, drops)
    if not is_within(first, 0, MOST_CHARGE):
        raise CantMove(-1)
    charges = [lowered_charge(meter, drops, arrow) for arrow in range(len(meter.charges))]
    for arrow, charge in enumerate(charges):
        if not is_within(charge, 0, MOST_CHARGE):
            raise CantMove(arrow)
    return Meter(meter.chart, first, charges)


def moved(meter, places, by):
    """The meter that charges by less into the places and by more out of them."""
    checked = check_places(meter.chart, places)
    if not is_within(by, -MOST_MOVE, MOST_MOVE):
        raise BadMove()
    return lowered(meter, [by * int(place in checked) for place in range(len(meter.chart.costs))])


def find_drops(meter, other):
    """For each place the lead of meter less that of other, or two runs for which these are unlike."""
    if meter.chart != other.chart:
        raise Unlike("charts")
    runs = [run_to(meter.chart, place) for place in range(len(meter.chart.costs))]
    drops = [meter.charged(run) - other.charged(run) for run in runs]
    for arrow, (tail, head) in enumerate(meter.chart.arrows):
        if drops[head] != drops[tail] + meter.charges[arrow] - other.charges[arrow]:
            return Apart(head, runs[head], (*runs[tail], arrow))
    return tuple(drops)


def drops_of(meter, other):
    """The drops from meter to other, or Parted."""
    found = find_drops(meter, other)
    if isinstance(found, Apart):
        raise Parted(found.place)
    return found


def find_moves(meter, other):
    """The moves (places, by) that lead from meter to other: drops above 0 first, the least ones first."""
    drops = drops_of(meter, other)
    moves = []
    before = 0
    for drop in sorted({drop: True for drop in drops if drop > 0}):
        moves.append((tuple([place for place, its in enumerate(drops) if its >= drop]), drop - before))
        before = drop
    before = 0
    for drop in reversed(sorted({drop: True for drop in drops if drop < 0})):
        moves.append((tuple([place for place, its in enumerate(drops) if its <= drop]), drop - before))
        before = drop
    return tuple(moves)


def wait_along(meter, drops, arrow):
    """The (place, other) of an arrow's ends of which the place must wait until the other one is moved, or None."""
    tail, head = meter.chart.arrows[arrow]
    charge = meter.charges[arrow]
    if tail != head and drops[tail] > 0 and drops[head] > charge:
        return (head, tail)
    if tail != head and drops[head] < 0 and charge + drops[tail] < 0:
        return (tail, head)
    return None


def first_free(waits, left):
    """The least of the places that waits for none of those that are left, or None."""
    for place in left:
        if not any([one == place and other in left for one, other in waits.values()]):
            return place
    return None


def waiting_ring(waits, left):
    """Arrows along a ring of places that wait for one another; each of those that are left waits for one."""
    place = left[0]
    passed = []
    arrows = []
    while place not in passed:
        passed.append(place)
        fitting = [arrow for arrow, (one, other) in waits.items() if one == place and other in left]
        arrows.append(fitting[0])
        place = waits[fitting[0]][1]
    return arrows[passed.index(place):]


def stuck_ring(waits, left, drops):
    ring = waiting_ring(waits, left)
    # Where the drops are above 0, a head waits for its tail, so the ring was found against its arrows.
    if drops[waits[ring[0]][0]] > 0:
        return tuple(reversed(ring))
    return tuple(ring)


def find_single_moves(meter, other):
    """An order in which each place is moved once by its whole drop, as (place, by), or Stuck."""
    drops = drops_of(meter, other)
    found = {arrow: wait_along(meter, drops, arrow) for arrow in range(len(meter.charges))}
    waits = {arrow: couple for arrow, couple in found.items() if couple is not None}
    left = [place for place, drop in enumerate(drops) if drop != 0]
    moves = []
    while left:
        place = first_free(waits, left)
        if place is None:
            return Stuck(stuck_ring(waits, left, drops))
        moves.append((place, drops[place]))
        left = [waiting for waiting in left if waiting != place]
    return tuple(moves)
