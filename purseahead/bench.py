"""A bench on which a case is changed step by step, and trials that leave it as it was."""

from purseahead.edits import apply_edits, meets_goal
from purseahead.errors import NothingDone
from purseahead.evenness import Even, check_lot
from purseahead.leastmeters import least_even


class Bench:
    """A chart and a lot of it, the edits that stand, and the cases ahead of each of them."""

    def __init__(self, chart, lot=()):
        self.chart = chart
        self.lot = check_lot(chart, lot)
        self.done = ()
        self.past = ()

    def change(self, edit):
        """Do one edit."""
        chart, lot = apply_edits(self.chart, self.lot, (edit,))
        self.past = (*self.past, (self.chart, self.lot))
        self.chart = chart
        self.lot = lot
        self.done = (*self.done, tuple(edit))

    def take_back(self):
        """Undo the last edit that stands; return it."""
        if not self.done:
            raise NothingDone()
        edit = self.done[-1]
        self.chart, self.lot = self.past[-1]
        self.past = self.past[:-1]
        self.done = self.done[:-1]
        return edit

    def even_now(self):
        """The least even leads of the case, or None."""
        found = least_even(self.chart, self.lot)
        if isinstance(found, Even):
            return found.leads
        return None

    def meets(self, goal):
        """Whether the case meets the goal."""
        return meets_goal(self.chart, self.lot, goal)

    def trial(self, edits, goal):
        """Whether the case would meet the goal behind the edits."""
        chart, lot = apply_edits(self.chart, self.lot, edits)
        return meets_goal(chart, lot, goal)


class Trial:
    """A stretch behind which the bench has its case of before."""

    def __init__(self, bench):
        self.bench = bench

    def __enter__(self):
        # Only now, as the bench may have been changed since the trial was made.
        self.chart = self.bench.chart
        self.lot = self.bench.lot
        self.done = self.bench.done
        self.past = self.bench.past
        return self.bench

    def __exit__(self, kind, value, trace):
        bench = self.bench
        bench.chart = self.chart
        bench.lot = self.lot
        bench.done = self.done
        bench.past = self.past


def in_trial(bench, work):
    """Call work with the bench, which is as before behind that; return what it returns."""
    with Trial(bench) as held:
        return work(held)
