"""The two-paced code on works, and the gates with which it stops where plain counting stops."""

from purseahead.checking import is_row, is_within
from purseahead.errors import BadWorkGates, NotMetered
from purseahead.paces import paced_visits
from purseahead.stops import check_limit
from purseahead.workmeters import WorkLeads, charge_of, even_works, is_covered_by
from purseahead.workruns import inner_ways, marks_along, next_marks, runs_to_points, step_of, visit_of, visits_along
from purseahead.workruns import visits_of, whole_in
from purseahead.works import by_procedure, called_by, cost_of, list_calls, list_points


class WorkParting:
    def __init__(self, point, steps, limit):
        self.point = point
        self.steps = steps
        self.limit = limit

    def __eq__(self, other):
        return (isinstance(other, WorkParting) and self.point == other.point
                and self.steps == other.steps and self.limit == other.limit)


def good_work_leads(meter):
    """The leads of an even and covered meter, a row for each procedure; NotMetered for another one."""
    found = even_works(meter)
    if not isinstance(found, WorkLeads):
        raise NotMetered("even")
    if not is_covered_by(meter.works, found.leads):
        raise NotMetered("covered")
    return found.leads


def used_along(works, visits):
    """What is used up to each visit, it too."""
    used = 0
    row = []
    for point in visits:
        used = used + cost_of(works, point)
        row.append(used)
    return row


def plain_steps_stop(works, steps, limit):
    """The number of visits that plain counting uses."""
    visits = visits_of(works, steps)
    check_limit(limit)
    return len([used for used in used_along(works, visits) if used <= limit])


def fitting_work_gates(leads, gates):
    """Return the gates as a tuple of rows, for None the leads, or raise BadWorkGates."""
    if gates is None:
        return leads
    if not is_row(gates, len(leads)):
        raise BadWorkGates(0, 0)
    for number, row in enumerate(leads):
        if not is_row(gates[number], len(row)):
            raise BadWorkGates(number, 0)
        for place, lead in enumerate(row):
            if not is_within(gates[number][place], 0, lead):
                raise BadWorkGates(number, place)
    return tuple([tuple(row) for row in gates])


def two_paced_works(meter, steps, limit, *, gates=None):
    """What the two-paced code does along the steps, visit by visit."""
    leads = good_work_leads(meter)
    marks = marks_along(meter.works, steps)
    check_limit(limit)
    fitting = fitting_work_gates(leads, gates)
    charges = [charge_of(meter, mark) for mark in marks if visit_of(meter.works, mark) is not None]
    visits = []
    for charge, point in zip([meter.first, *charges], visits_along(meter.works, marks)):
        number, place = point
        visits.append((charge, leads[number][place], cost_of(meter.works, point), fitting[number][place]))
    # A return makes no test and visits nothing, so the code goes on from the lead behind the callee's end.
    return paced_visits(limit, visits)


def free_wholes(meter):
    """For each procedure the first well-nested way of steps that charge 0 to one of its ends, or None."""
    ways = inner_ways(meter.works, meter.charged_marks)
    return [whole_in(meter.works, ways, number) for number in range(len(meter.works.charts))]


def free_moves(meter, wholes, stand):
    """The stands behind a move whose steps charge 0, each with its steps and the call point that is returned to.

    A stand is a point, whether the last step is a return, and whether a call is pending that was made behind
    the first stand. Such a call is gone over as a whole or never returned from; other returns go to any caller.
    """
    point, returned, nested = stand
    works = meter.works
    called = called_by(works, point)
    moves = []
    for mark in next_marks(works, point, returned, not nested):
        if mark[0] == "end":
            for caller in list_calls(works):
                if called_by(works, caller) == point[0]:
                    moves.append(((caller, True, False), (("return",),), caller))
        elif charge_of(meter, mark) == 0:
            moves.append(((visit_of(works, mark), False, nested or mark[0] == "call"), (step_of(mark),), None))
            if mark[0] == "call" and wholes[called] is not None:
                moves.append(((point, True, nested), (("call",), *wholes[called], ("return",)), None))
    return moves


def free_ways(meter, wholes, point):
    """For each stand to which steps that charge 0 lead from a point: such steps and the call points returned to."""
    ways = {(point, False, False): ((), ())}
    waiting = [(point, False, False)]
    while waiting:
        stand = waiting.pop()
        steps, callers = ways[stand]
        for further, more, caller in free_moves(meter, wholes, stand):
            if further not in ways:
                passed = callers
                if caller is not None:
                    passed = (*callers, caller)
                ways[further] = ((*steps, *more), passed)
                waiting.append(further)
    return ways


def lead_behind_point(meter, leads, point):
    number, place = point
    return leads[number][place] - cost_of(meter.works, point)


def neediest(meter, leads, wholes, point):
    """The need of a point, and the steps and the call points returned to that use just so much.

    The meter is even, so steps that charge 0 use what the lead falls by.
    """
    ways = free_ways(meter, wholes, point)
    visited = [stand for stand in ways if not stand[1]]
    last = min(visited, key=lambda stand: lead_behind_point(meter, leads, stand[0]))
    steps, callers = ways[last]
    return (leads[point[0]][point[1]] - lead_behind_point(meter, leads, last[0]), steps, callers)


def least_work_gates(meter):
    """The need of each point, a row for each procedure."""
    leads = good_work_leads(meter)
    wholes = free_wholes(meter)
    needs = {point: neediest(meter, leads, wholes, point)[0] for point in list_points(meter.works)}
    return by_procedure(meter.works, needs)


def run_below(works, callers, point):
    """A run to the point whose last pending calls are the callers, the innermost first."""
    if not callers:
        return runs_to_points(works)[point]
    ways = inner_ways(works)
    steps = runs_to_points(works)[callers[-1]]
    for inner in reversed((point, *callers[:-1])):
        steps = (*steps, ("call",), *ways[inner])
    return steps


def find_work_parting(meter, gates):
    """None if no gate is too low, else a run and limit on which the first point with such a gate spoils the count."""
    leads = good_work_leads(meter)
    fitting = fitting_work_gates(leads, gates)
    wholes = free_wholes(meter)
    for point in list_points(meter.works):
        need, steps, callers = neediest(meter, leads, wholes, point)
        gate = fitting[point[0]][point[1]]
        if gate < need:
            run = run_below(meter.works, callers, point)
            used = used_along(meter.works, visits_of(meter.works, run))[-1]
            # With just the gate left ahead of the point the code uses more from there on without a test.
            return WorkParting(point, (*run, *steps), used - cost_of(meter.works, point) + gate)
    return None
