"""Deeds of lanes in a row, and the weaves of lane runs: all orders of their deeds."""

from math import comb

from purseahead.checking import is_row, is_sequence
from purseahead.errors import BadArrow, BadDeeds, BadLaneRuns, BadRun, NoLane, NoRoom, NotHere, NotRunning, Refused
from purseahead.lanes import Lanes, check_meters
from purseahead.runs import check_run

MOST_DEEDS = 200
MOST_ARROWS = 40


class Woven:
    def __init__(self, done, refused, purse, used):
        self.done = done
        self.refused = refused
        self.purse = purse
        self.used = used

    def __eq__(self, other):
        return (isinstance(other, Woven) and self.done == other.done and self.refused == other.refused
                and self.purse == other.purse and self.used == other.used)


def is_deed(deed):
    """Whether a value is a deed by its form, whatever its lane and its arrow are."""
    if is_row(deed, 3):
        return deed[0] == "take"
    return is_row(deed, 2) and deed[0] in ("begin", "fork", "close")


def do_deed(lanes, deed):
    lane = deed[1]
    if deed[0] == "begin":
        lanes.begin(lane)
    elif deed[0] == "take":
        lanes.take(lane, deed[2])
    elif deed[0] == "fork":
        lanes.fork(lane)
    else:
        lanes.close(lane)


def is_done(lanes, index, deed):
    """Do a deed unless it is refused, and tell whether it is done; BadDeeds for any other error."""
    try:
        do_deed(lanes, deed)
    except Refused:
        return False
    except (NoLane, NotRunning, NoRoom, BadArrow, NotHere):
        raise BadDeeds(index)
    return True


def weave_run(meters, limit, deeds):
    """Do the deeds on new lanes up to the first one that is refused; return what is Woven."""
    lanes = Lanes(meters, limit)
    if not is_sequence(deeds) or len(deeds) > MOST_DEEDS:
        raise BadDeeds(0)
    for index, deed in enumerate(deeds):
        if not is_deed(deed):
            raise BadDeeds(index)
        if not is_done(lanes, index, deed):
            return Woven(index, deed[1], lanes.purse, lanes.used)
    return Woven(len(deeds), None, lanes.purse, lanes.used)


def checked_lane_run(chart, lane, run):
    """Return a lane run as a tuple or None, or raise BadLaneRuns."""
    if run is None:
        return None
    if not is_sequence(run) or len(run) > MOST_ARROWS:
        raise BadLaneRuns(lane)
    try:
        return check_run(chart, run)
    except BadRun:
        raise BadLaneRuns(lane)


def check_lane_runs(meters, runs):
    """Return the lane runs of the meters as a tuple, or raise BadLaneRuns."""
    checked = check_meters(meters)
    if not is_row(runs, len(checked)):
        raise BadLaneRuns(0)
    return tuple([checked_lane_run(meter.chart, lane, runs[lane]) for lane, meter in enumerate(checked)])


def deeds_of(lane, run):
    """The deeds of a lane run, none for None."""
    if run is None:
        return []
    return [("begin", lane), *[("take", lane, arrow) for arrow in run]]


def all_weaves(meters, runs):
    """Yield every weave of the lane runs; their rows of lane numbers ascend."""
    rows = [deeds_of(lane, run) for lane, run in enumerate(check_lane_runs(meters, runs))]
    waiting = [((0,) * len(rows), ())]
    while waiting:
        done, weave = waiting.pop()
        open_lanes = [lane for lane, row in enumerate(rows) if done[lane] < len(row)]
        if not open_lanes:
            yield weave
        for lane in reversed(open_lanes):
            ahead = tuple([number + int(other == lane) for other, number in enumerate(done)])
            waiting.append((ahead, (*weave, rows[lane][done[lane]])))


def count_weaves(meters, runs):
    """How many weaves the lane runs have."""
    total = 0
    count = 1
    for lane, run in enumerate(check_lane_runs(meters, runs)):
        own = len(deeds_of(lane, run))
        total = total + own
        count = count * comb(total, own)
    return count
