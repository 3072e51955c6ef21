"""Runs of works: well-nested rows of steps, how many there are, and the first ones to points and ends.

Each step goes along the link of one mark.
"""

from purseahead.checking import is_row, is_sequence, is_whole, is_within
from purseahead.errors import BadProcedure, BadSteps
from purseahead.runs import check_length
from purseahead.works import called_by, check_point, cost_of, list_calls, list_points

MOST_STEPS = 10000
MOST_LISTED = 12
MOST_COUNTED = 60


class Standing:
    def __init__(self, pending, point, returned):
        self.pending = pending
        self.point = point
        self.returned = returned

    def __eq__(self, other):
        return (isinstance(other, Standing) and self.pending == other.pending
                and self.point == other.point and self.returned == other.returned)


def next_marks(works, point, returned, nested):
    """The marks along which a run may go on, ascending; nested tells whether a call is pending."""
    number, place = point
    chart = works.charts[number]
    if called_by(works, point) is not None and not returned:
        return [("call", number, place)]
    if nested and place in chart.ends:
        return [("end", number, place)]
    return [("arrow", number, arrow) for arrow in chart.outs(place)]


def step_of(mark):
    """The step that goes along a mark."""
    kind, _, item = mark
    if kind == "arrow":
        return ("arrow", item)
    if kind == "call":
        return ("call",)
    return ("return",)


def visit_of(works, mark):
    """The point that a step along the mark visits, or None for a return."""
    kind, number, item = mark
    if kind == "arrow":
        return (number, works.charts[number].arrows[item][1])
    if kind == "call":
        return (works.calls[number][item], 0)
    return None


def is_step_form(value):
    return is_row(value, 1) or (is_row(value, 2) and is_whole(value[1]))


def mark_taken(marks, step):
    """The one of the marks along which the step goes, or None."""
    if not is_step_form(step):
        return None
    for mark in marks:
        if step_of(mark) == tuple(step):
            return mark
    return None


def walk_on(works, steps):
    """Check the steps; return their marks and where they come to, as Standing tells it."""
    if not is_sequence(steps) or len(steps) > MOST_STEPS:
        raise BadSteps(0)
    point = (0, 0)
    returned = False
    pending = []
    marks = []
    for index, step in enumerate(steps):
        mark = mark_taken(next_marks(works, point, returned, len(pending) > 0), step)
        if mark is None:
            raise BadSteps(index)
        marks.append(mark)
        returned = mark[0] == "end"
        if mark[0] == "call":
            pending.append(point)
        if returned:
            point = pending.pop()
        else:
            point = visit_of(works, mark)
    return (tuple(marks), tuple(pending), point, returned)


def marks_along(works, steps):
    """The marks along which the steps go, or BadSteps."""
    return walk_on(works, steps)[0]


def check_steps(works, steps):
    """Return the steps as a tuple of tuples, or raise BadSteps."""
    return tuple([step_of(mark) for mark in marks_along(works, steps)])


def following_steps(works, steps):
    """The steps that may follow, ascending."""
    _, pending, point, returned = walk_on(works, steps)
    return tuple([step_of(mark) for mark in next_marks(works, point, returned, len(pending) > 0)])


def stand_after(works, steps):
    """The pending call points, the present point, and whether the last step is a return."""
    _, pending, point, returned = walk_on(works, steps)
    return Standing(pending, point, returned)


def visits_along(works, marks):
    """The visited points of a run along marks."""
    visits = [visit_of(works, mark) for mark in marks]
    return ((0, 0), *[point for point in visits if point is not None])


def visits_of(works, steps):
    """The visited points in order, (0, 0) first."""
    return visits_along(works, marks_along(works, steps))


def used_by_steps(works, steps):
    """The sum of the costs of all visits."""
    return sum([cost_of(works, point) for point in visits_of(works, steps)])


def stay_count(works, stays, wholes, stand, length):
    """How many rows of that many steps go on from a stand without a return out of its procedure."""
    if length == 0:
        return 1
    point, returned = stand
    called = called_by(works, point)
    if called is None or returned:
        return sum([stays[(head, False)][length - 1] for head in heads_of(works, point)])
    inside = stays[((called, 0), False)][length - 1]
    whole = wholes[((called, 0), False)]
    return inside + sum([whole[many] * stays[(point, True)][length - 2 - many] for many in range(length - 1)])


def whole_count(works, wholes, stand, length):
    """How many well-nested rows of that many steps lead from a stand to an end of its procedure."""
    point, returned = stand
    called = called_by(works, point)
    if called is None or returned:
        heads = heads_of(works, point)
        if length == 0:
            return int(not heads)
        return sum([wholes[(head, False)][length - 1] for head in heads])
    whole = wholes[((called, 0), False)]
    return sum([whole[many] * wholes[(point, True)][length - 2 - many] for many in range(length - 1)])


def heads_of(works, point):
    """The points to which the arrows out of a point lead, one for each arrow."""
    number, place = point
    return [(number, head) for tail, head in works.charts[number].arrows if tail == place]


def count_tables(works, length):
    """For each stand, a point and whether a return comes to it, the counts of both kinds for all lengths up to this."""
    stands = [(point, False) for point in list_points(works)]
    stands = [*stands, *[(point, True) for point in list_calls(works)]]
    stays = {stand: [] for stand in stands}
    wholes = {stand: [] for stand in stands}
    for many in range(length + 1):
        for stand in stands:
            stays[stand].append(stay_count(works, stays, wholes, stand, many))
            wholes[stand].append(whole_count(works, wholes, stand, many))
    return (stays, wholes)


def count_work_runs(works, length):
    """How many runs have exactly that many steps."""
    check_length(length, MOST_COUNTED)
    return count_tables(works, length)[0][((0, 0), False)][length]


def longest_stays(works, length):
    """For each stand the greatest length, up to this one, of a row without a return out of its procedure."""
    stays, _ = count_tables(works, length)
    return {stand: len([many for many in counts if many > 0]) - 1 for stand, counts in stays.items()}


def can_go_on(longest, pending, stand, left):
    """Whether a run with these pending calls goes on for that many steps, no more than longest was made for."""
    # A longest row that cannot go on is at an end of its procedure, so that a return follows.
    behind = [1 + longest[(call, True)] for call in pending]
    return longest[stand] + sum(behind) >= left


def all_work_runs(works, length):
    """Yield the runs of exactly that many steps, ascending."""
    check_length(length, MOST_LISTED)
    longest = longest_stays(works, length)
    waiting = []
    if can_go_on(longest, (), ((0, 0), False), length):
        waiting.append(((), (0, 0), False, ()))
    while waiting:
        pending, point, returned, steps = waiting.pop()
        if len(steps) == length:
            yield steps
            continue
        left = length - len(steps) - 1
        for mark in reversed(next_marks(works, point, returned, len(pending) > 0)):
            calls, further, back = stand_behind(works, pending, point, mark)
            # A start that no run of this length goes on from would cost time for nothing.
            if can_go_on(longest, calls, (further, back), left):
                waiting.append((calls, further, back, (*steps, step_of(mark))))


def stand_behind(works, pending, point, mark):
    """The pending calls, the point and whether it is a return, behind a step along the mark."""
    if mark[0] == "end":
        return (pending[:-1], pending[-1], True)
    if mark[0] == "call":
        return ((*pending, point), visit_of(works, mark), False)
    return (pending, visit_of(works, mark), False)


def is_earlier(steps, other):
    """Whether steps are fewer than the others, or as many and less; None stands for no steps at all."""
    return other is None or (len(steps), steps) < (len(other), other)


def first_of(ways):
    """The way with the fewest steps, of those the least, or None if there is none."""
    best = None
    for way in ways:
        if way is not None and is_earlier(way, best):
            best = way
    return best


def whole_in(works, ways, procedure):
    """The first of the ways to an end of the procedure, or None."""
    return first_of([ways[(procedure, place)] for place in works.charts[procedure].ends])


def over_point(works, ways, point, barred):
    """The steps over the call of a point, () if it calls nothing; None if the call is barred or does not return."""
    called = called_by(works, point)
    if called is None:
        return ()
    whole = whole_in(works, ways, called)
    if whole is None or ("call", *point) in barred:
        return None
    return (("call",), *whole, ("return",))


def inner_ways(works, barred=()):
    """For each point the first well-nested way to it from place 0 of its procedure, or None.

    No way goes along the barred marks. First is the way with the fewest steps, of those the least.
    """
    ways = {point: None for point in list_points(works)}
    for number in range(len(works.charts)):
        ways[(number, 0)] = ()
    found = True
    while found:
        found = False
        for number, chart in enumerate(works.charts):
            for arrow, (tail, head) in enumerate(chart.arrows):
                way = way_along(works, ways, (number, tail), arrow, barred)
                if way is not None and is_earlier(way, ways[(number, head)]):
                    ways[(number, head)] = way
                    found = True
    return ways


def way_along(works, ways, point, arrow, barred):
    """The way to a point, over its call and along an arrow out of it, or None."""
    over = over_point(works, ways, point, barred)
    if ways[point] is None or over is None or ("arrow", point[0], arrow) in barred:
        return None
    return (*ways[point], *over, ("arrow", arrow))


def find_whole_run(works, procedure):
    """The first well-nested way from place 0 of the procedure to one of its ends, or None."""
    if not is_within(procedure, 0, len(works.charts) - 1):
        raise BadProcedure(procedure)
    return whole_in(works, inner_ways(works), procedure)


def entry_runs(works, ways):
    """For each procedure the first run whose last step visits its place 0."""
    entries = [None] * len(works.charts)
    entries[0] = ()
    # A first run enters no procedure twice.
    for _ in range(len(entries)):
        for point in list_calls(works):
            called = called_by(works, point)
            if entries[point[0]] is not None:
                entries[called] = first_of([entries[called], (*entries[point[0]], *ways[point], ("call",))])
    return entries


def runs_to_points(works):
    """For each point the first run whose last step visits it, () for (0, 0)."""
    ways = inner_ways(works)
    entries = entry_runs(works, ways)
    return {point: (*entries[point[0]], *ways[point]) for point in list_points(works)}


def find_run_to(works, point):
    """The first run whose last step visits the point, () for (0, 0)."""
    checked = check_point(works, point)
    return runs_to_points(works)[checked]
