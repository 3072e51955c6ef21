"""Works: procedures that call one another, their points and return places, and the links between them."""

from purseahead.charts import Chart
from purseahead.checking import is_row, is_sequence, is_whole, is_within
from purseahead.errors import BadPoint, BadWorks

MOST_PROCEDURES = 4
MOST_SPOTS = 16
MOST_MARKS = 32


def checked_charts(charts):
    if not is_sequence(charts) or not 1 <= len(charts) <= MOST_PROCEDURES:
        raise BadWorks("charts", 0, 0)
    for procedure, chart in enumerate(charts):
        if not isinstance(chart, Chart):
            raise BadWorks("chart", procedure, 0)
    return tuple(charts)


def checked_row(charts, procedure, row):
    """Return what each place of the procedure calls as a tuple, or raise BadWorks."""
    chart = charts[procedure]
    if not is_row(row, len(chart.costs)):
        raise BadWorks("row", procedure, 0)
    for place, called in enumerate(row):
        if called is not None and not is_within(called, 0, len(charts) - 1):
            raise BadWorks("call", procedure, place)
        if called is not None and place in chart.ends:
            raise BadWorks("end", procedure, place)
    return tuple(row)


def checked_calls(charts, calls):
    if not is_row(calls, len(charts)):
        raise BadWorks("calls", 0, 0)
    return tuple([checked_row(charts, procedure, row) for procedure, row in enumerate(calls)])


def check_whole(works):
    """Raise BadWorks for works that are too large, or with a procedure that never returns or is never called."""
    if len(list_spots(works)) > MOST_SPOTS or len(list_marks(works)) > MOST_MARKS:
        raise BadWorks("many", 0, 0)
    returning = returning_procedures(works)
    for procedure in list_called(works):
        if not returning[procedure]:
            raise BadWorks("return", procedure, 0)
    reached = reached_procedures(works)
    for procedure in range(len(works.charts)):
        if not reached[procedure]:
            raise BadWorks("reached", procedure, 0)


def returning_procedures(works):
    """For each procedure whether a well-nested way leads from its place 0 to one of its ends."""
    returning = [False] * len(works.charts)
    # Each pass but the last finds another procedure that returns.
    for _ in range(len(returning)):
        returning = [comes_to_end(works, procedure, returning) for procedure in range(len(returning))]
    return returning


def comes_to_end(works, procedure, returning):
    """Whether an end is come to over calls of returning procedures alone."""
    chart = works.charts[procedure]
    reached = [False] * len(chart.costs)
    reached[0] = True
    for _ in range(len(reached)):
        for tail, head in chart.arrows:
            called = works.calls[procedure][tail]
            if reached[tail] and (called is None or returning[called]):
                reached[head] = True
    return any([reached[place] for place in chart.ends])


def reached_procedures(works):
    """For each procedure whether a chain of calls from procedure 0 comes to it."""
    reached = [False] * len(works.charts)
    reached[0] = True
    for _ in range(len(reached)):
        for procedure, place in list_calls(works):
            if reached[procedure]:
                reached[works.calls[procedure][place]] = True
    return reached


class Works:
    """Procedures, each a chart, and for each place of each the procedure that it calls, or None."""

    def __init__(self, charts, calls):
        self.charts = checked_charts(charts)
        self.calls = checked_calls(self.charts, calls)
        check_whole(self)

    def __len__(self):
        return len(self.charts)

    def __eq__(self, other):
        return isinstance(other, Works) and self.charts == other.charts and self.calls == other.calls


def list_points(works):
    """All points, ascending."""
    charts = works.charts
    return tuple([(number, place) for number in range(len(charts)) for place in range(len(charts[number].costs))])


def list_calls(works):
    """All call points, ascending."""
    return tuple([(number, place) for number, place in list_points(works) if works.calls[number][place] is not None])


def list_called(works):
    """All called procedures, ascending."""
    called = [works.calls[number][place] for number, place in list_calls(works)]
    return tuple([number for number in range(len(works.charts)) if number in called])


def list_spots(works):
    """All points, then the return places of the called procedures."""
    returns = [(number, None) for number in list_called(works)]
    return (*list_points(works), *returns)


def list_marks(works):
    """The marks of all arrows, then of all calls, then of the ends of called procedures."""
    charts = works.charts
    arrows = [("arrow", number, arrow) for number in range(len(charts)) for arrow in range(len(charts[number].arrows))]
    calls = [("call", number, place) for number, place in list_calls(works)]
    ends = [("end", number, place) for number in list_called(works) for place in charts[number].ends]
    return (*arrows, *calls, *ends)


def called_by(works, point):
    """The number of the procedure that the point calls, or None."""
    number, place = point
    return works.calls[number][place]


def cost_of(works, spot):
    """The cost of a spot; a return place costs nothing."""
    number, place = spot
    if place is None:
        return 0
    return works.charts[number].costs[place]


def spot_behind(works, point):
    """The spot from which the arrows out of a point lead: the point, or the return place of what it calls."""
    called = called_by(works, point)
    if called is None:
        return point
    return (called, None)


def link_of(works, mark):
    """The spots from which and to which a mark's link leads."""
    kind, number, item = mark
    if kind == "arrow":
        tail, head = works.charts[number].arrows[item]
        return (spot_behind(works, (number, tail)), (number, head))
    if kind == "call":
        return ((number, item), (works.calls[number][item], 0))
    return ((number, item), (number, None))


def is_point(works, value):
    if not is_row(value, 2) or not is_within(value[0], 0, len(works.charts) - 1):
        return False
    return is_within(value[1], 0, len(works.charts[value[0]].costs) - 1)


def is_spot(works, value):
    """Whether a value is a point or the return place of a called procedure."""
    if is_point(works, value):
        return True
    return is_row(value, 2) and is_whole(value[0]) and value[1] is None and value[0] in list_called(works)


def is_mark(works, value):
    if not is_row(value, 3) or not is_whole(value[1]) or not is_whole(value[2]):
        return False
    return tuple(value) in list_marks(works)


def check_point(works, point):
    """Return the point as a tuple, or raise BadPoint."""
    if not is_point(works, point):
        raise BadPoint(point)
    return tuple(point)


def by_procedure(works, table):
    """A row for each procedure with what a table holds for each of its points."""
    rows = []
    for number, chart in enumerate(works.charts):
        rows.append(tuple([table[(number, place)] for place in range(len(chart.costs))]))
    return tuple(rows)


def least_call_points(works):
    """The least call point of each procedure for each procedure that it calls, ascending."""
    found = {}
    for point in list_calls(works):
        link = (point[0], called_by(works, point))
        if link not in found:
            found[link] = point
    return list(found.values())


def find_call_ring(works):
    """A ring of call points, each of which calls the next one's procedure: fewest points, then least; or None."""
    points = least_call_points(works)
    chains = [(point,) for point in points]
    # A ring of the fewest points comes to no procedure twice.
    for _ in range(len(works.charts)):
        rings = [chain for chain in chains if called_by(works, chain[-1]) == chain[0][0]]
        if rings:
            return min(rings)
        chains = [(*chain, point) for chain in chains for point in points if called_by(works, chain[-1]) == point[0]]
    return None
