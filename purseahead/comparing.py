"""Which of two meters has the lesser leads, and which one stops sooner."""

from purseahead.moving import drops_of, lowered
from purseahead.runs import run_to


class Sooner:
    def __init__(self, run, limit):
        self.run = run
        self.limit = limit

    def __eq__(self, other):
        return isinstance(other, Sooner) and self.run == other.run and self.limit == other.limit


def lower_of(meter, other):
    """The meter whose lead is the lesser one of both on every run."""
    drops = drops_of(meter, other)
    return lowered(meter, [max(drop, 0) for drop in drops])


def upper_of(meter, other):
    """The meter whose lead is the greater one of both on every run."""
    drops = drops_of(meter, other)
    return lowered(meter, [min(drop, 0) for drop in drops])


def find_sooner(meter, other):
    """None, or the first run and a limit with which meter cannot pay the last charge, though other pays it."""
    drops = drops_of(meter, other)
    runs = [run_to(meter.chart, place) for place, drop in enumerate(drops) if drop > 0]
    if not runs:
        return None
    # No place ahead of the last one has a drop above 0, so meter pays all the charges before.
    run = min(runs, key=lambda way: (len(way), way))
    return Sooner(run, other.charged(run))
