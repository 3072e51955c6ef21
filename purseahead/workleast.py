"""The least even and covered leads of works whose marks of a lot may charge, or walks that forbid them."""

from purseahead.checking import check_many, is_row, is_sequence, is_whole_row
from purseahead.demands import DemandRing, is_met, least_numbers
from purseahead.errors import BadWorkLot
from purseahead.evenness import lots_by_number
from purseahead.works import by_procedure, cost_of, is_mark, is_spot, link_of, list_marks, list_points
from purseahead.works import list_spots

MOST_CHARGEABLE = 10


class EvenWorks:
    def __init__(self, leads, chains):
        self.leads = leads
        self.chains = chains

    def __eq__(self, other):
        return isinstance(other, EvenWorks) and self.leads == other.leads and self.chains == other.chains


class WorkWalk:
    def __init__(self, steps):
        self.steps = steps

    def __eq__(self, other):
        return isinstance(other, WorkWalk) and self.steps == other.steps


class FewestWorks:
    def __init__(self, number, lot):
        self.number = number
        self.lot = lot

    def __eq__(self, other):
        return isinstance(other, FewestWorks) and self.number == other.number and self.lot == other.lot


def chargeable_marks(works):
    """The marks of all arrows and calls, in the order of list_marks."""
    return [mark for mark in list_marks(works) if mark[0] != "end"]


def check_work_lot(works, lot):
    """Return the lot as a tuple of marks, or raise BadWorkLot."""
    if not is_sequence(lot):
        raise BadWorkLot(0)
    marks = chargeable_marks(works)
    before = -1
    for index, mark in enumerate(lot):
        if not is_mark(works, mark) or mark[0] == "end" or marks.index(tuple(mark)) <= before:
            raise BadWorkLot(index)
        before = marks.index(tuple(mark))
    return tuple([tuple(mark) for mark in lot])


def step_demands(works, lot):
    """(end, start, by, step) for each step that a walk may go: the lead of end is at least that of start and by."""
    told = []
    for mark in list_marks(works):
        start, end = link_of(works, mark)
        told.append((end, start, -cost_of(works, start), (mark, "forward")))
        if mark not in lot:
            told.append((start, end, cost_of(works, start), (mark, "back")))
    return told


def all_demands(works, lot):
    """The demands on the leads of all spots: the costs, then those of the steps."""
    costs = [(spot, None, cost_of(works, spot), None) for spot in list_spots(works)]
    return [*costs, *step_demands(works, lot)]


def numbered(works, told):
    """The demands with numbers in the place of spots."""
    numbers = {spot: number for number, spot in enumerate(list_spots(works))}
    numbers[None] = None
    return [(numbers[spot], numbers[start], by) for spot, start, by, step in told]


def chain_to(told, reasons, number):
    """The spot and the steps from which the reasons lead to the spot of that number."""
    back = []
    spots = [demand[0] for demand in told[:len(reasons)]]
    reason = told[reasons[number]]
    while reason[1] is not None:
        back.append(reason[3])
        reason = told[reasons[spots.index(reason[1])]]
    return (reason[0], tuple(reversed(back)))


def least_even_works(works, lot):
    """The EvenWorks with the least leads for the lot, or a WorkWalk."""
    checked = check_work_lot(works, lot)
    told = all_demands(works, checked)
    spots = list_spots(works)
    found = least_numbers(len(spots), numbered(works, told))
    if isinstance(found, DemandRing):
        return WorkWalk(tuple([told[index][3] for index in found.indexes]))
    leads = {spot: found.numbers[number] for number, spot in enumerate(spots)}
    chains = {spot: chain_to(told, found.reasons, number) for number, spot in enumerate(spots)}
    return EvenWorks(by_procedure(works, leads), by_procedure(works, chains))


def is_walk_step(works, value):
    return is_row(value, 2) and is_mark(works, value[0]) and value[1] in ("forward", "back")


def walk_step_ends(works, step):
    """The spots that a step leaves and comes to."""
    start, end = link_of(works, step[0])
    if step[1] == "forward":
        return (start, end)
    return (end, start)


def spots_along(works, steps):
    """The spots of a walk, from the one that its first step leaves on; None if the steps are none or hang not together.

    A walk without steps passes no spot.
    """
    if not is_sequence(steps) or not all([is_walk_step(works, step) for step in steps]):
        return None
    spots = []
    for step in steps:
        left, reached = walk_step_ends(works, step)
        if not spots:
            spots.append(left)
        if left != spots[-1]:
            return None
        spots.append(reached)
    return spots


def goes_back_within(lot, steps):
    """Whether a step goes back along a mark of the lot."""
    return any([step[1] == "back" and tuple(step[0]) in lot for step in steps])


def steps_sum(works, steps):
    """The costs of the spots that the links leave, added for steps back and subtracted for steps forward."""
    total = 0
    for step in steps:
        cost = cost_of(works, link_of(works, step[0])[0])
        if step[1] == "forward":
            cost = -cost
        total = total + cost
    return total


def work_walk_fault(works, lot, walk):
    """None, or the first of "step", "closed", "sense", "sum" that is wrong with a WorkWalk."""
    checked = check_work_lot(works, lot)
    spots = spots_along(works, walk.steps)
    if spots is None:
        return "step"
    if not spots or spots[0] != spots[-1]:
        return "closed"
    if goes_back_within(checked, walk.steps):
        return "sense"
    if steps_sum(works, walk.steps) <= 0:
        return "sum"
    return None


def are_lead_rows(works, leads):
    charts = works.charts
    if not is_row(leads, len(charts)):
        return False
    return all([is_whole_row(row, len(chart.costs)) for row, chart in zip(leads, charts)])


def are_met(works, lot, leads):
    """Whether the leads of the points, and those of the return places that follow from them, meet all demands."""
    numbers = [leads[number][place] for number, place in list_points(works)]
    for spot in list_spots(works)[len(numbers):]:
        end = (spot[0], works.charts[spot[0]].ends[0])
        numbers.append(leads[end[0]][end[1]] - cost_of(works, end))
    told = all_demands(works, lot)
    return all([is_met(numbers, demand) for demand in numbered(works, told)])


def is_chain(works, lot, lead, point, chain):
    """Whether a chain is a walk to the point that tells its lead."""
    if not is_row(chain, 2) or not is_spot(works, chain[0]):
        return False
    start, steps = chain
    spots = spots_along(works, steps)
    if spots is None or goes_back_within(lot, steps):
        return False
    # A chain without steps stays where it starts.
    passed = spots or [tuple(start)]
    if passed[0] != tuple(start) or passed[-1] != point:
        return False
    return lead == cost_of(works, start) + steps_sum(works, steps)


def are_chains(works, lot, leads, chains):
    charts = works.charts
    if not is_row(chains, len(charts)):
        return False
    if not all([is_row(row, len(chart.costs)) for row, chart in zip(chains, charts)]):
        return False
    return all([is_chain(works, lot, leads[number][place], (number, place), chains[number][place])
                for number, place in list_points(works)])


def even_works_fault(works, lot, even):
    """None, or the first of "leads", "demand", "chain" that is wrong with an EvenWorks."""
    checked = check_work_lot(works, lot)
    if not are_lead_rows(works, even.leads):
        return "leads"
    if not are_met(works, checked, even.leads):
        return "demand"
    if not are_chains(works, checked, even.leads, even.chains):
        return "chain"
    return None


def fewest_work_lot(works):
    """The first lot with even and covered leads, by number of marks, then ascending."""
    marks = chargeable_marks(works)
    check_many(len(marks), MOST_CHARGEABLE)
    for numbers in lots_by_number(len(marks)):
        lot = tuple([marks[number] for number in numbers])
        if isinstance(least_even_works(works, lot), EvenWorks):
            break
    return FewestWorks(len(lot), lot)
