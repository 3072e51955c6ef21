"""Runs: what they visit and use, how many there are, and the first run to each place."""

from purseahead.charts import check_place, is_arrow
from purseahead.checking import is_sequence, is_within
from purseahead.errors import BadLength, BadRun

MOST_PASSED = 400
MOST_LISTED = 12
MOST_COUNTED = 100


def check_run(chart, run):
    """Return the run as a tuple, or raise BadRun."""
    if not is_sequence(run) or len(run) > MOST_PASSED:
        raise BadRun(0)
    place = 0
    for index, arrow in enumerate(run):
        if not is_arrow(chart, arrow) or chart.arrows[arrow][0] != place:
            raise BadRun(index)
        place = chart.arrows[arrow][1]
    return tuple(run)


def places_of(chart, run):
    """The visited places in order, place 0 first."""
    heads = [chart.arrows[arrow][1] for arrow in check_run(chart, run)]
    return (0, *heads)


def last_place(chart, run):
    return places_of(chart, run)[-1]


def used_by(chart, run):
    """The sum of the costs of all visits."""
    return used_row(chart, run)[-1]


def used_row(chart, run):
    """What is used after each visit."""
    used = 0
    row = []
    for place in places_of(chart, run):
        used = used + chart.costs[place]
        row.append(used)
    return tuple(row)


def check_length(length, most):
    if not is_within(length, 0, most):
        raise BadLength(length)
    return length


def row_counts(chart, length):
    """For each number of arrows up to length: how many rows of so many arrows begin at each place."""
    counts = [[1] * len(chart.costs)]
    for _ in range(length):
        shorter = counts[-1]
        longer = [0] * len(chart.costs)
        for tail, head in chart.arrows:
            longer[tail] = longer[tail] + shorter[head]
        counts.append(longer)
    return counts


def all_runs(chart, length):
    """Yield every run of exactly that many arrows, in ascending order."""
    check_length(length, MOST_LISTED)
    counts = row_counts(chart, length)
    waiting = [(0, ())]
    while waiting:
        place, run = waiting.pop()
        if len(run) == length:
            yield run
            continue
        left = length - len(run) - 1
        for arrow in reversed(chart.outs(place)):
            head = chart.arrows[arrow][1]
            # A start that no run of this length goes on from would cost time for nothing.
            if counts[left][head] > 0:
                waiting.append((head, (*run, arrow)))


def count_runs(chart, length):
    """How many runs have exactly that many arrows."""
    check_length(length, MOST_COUNTED)
    return row_counts(chart, length)[length][0]


def run_to(chart, place):
    """The run to the place that has the fewest arrows, and of those the least tuple."""
    check_place(chart, place)
    found = {0: ()}
    waiting = [0]
    done = 0
    # Places wait in the order of their runs, so the first run that comes to a place is its least one.
    while place not in found:
        tail = waiting[done]
        done = done + 1
        for arrow in chart.outs(tail):
            head = chart.arrows[arrow][1]
            if head not in found:
                found[head] = (*found[tail], arrow)
                waiting.append(head)
    return found[place]
