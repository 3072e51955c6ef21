"""Logs: the charges that are paid along a run, and what can be told of the run from them."""

from purseahead.charts import check_place
from purseahead.checking import is_sequence, is_within
from purseahead.covering import even_leads
from purseahead.errors import BadLog, Misfit, NotMetered, NotThere
from purseahead.meters import MOST_CHARGE
from purseahead.runs import check_run

MOST_ENTRIES = 24


def log_of(meter, run):
    """The first charge and those of the run's charges that are above 0."""
    charges = [meter.charges[arrow] for arrow in check_run(meter.chart, run)]
    return (meter.first, *[charge for charge in charges if charge > 0])


def is_entry(index, value):
    """Whether a value may be the entry of a log at this index."""
    return is_within(value, min(index, 1), MOST_CHARGE)


def check_log(log):
    """Return the log as a tuple, or raise BadLog."""
    if not is_sequence(log) or not 1 <= len(log) <= MOST_ENTRIES:
        raise BadLog(0)
    for index, entry in enumerate(log):
        if not is_entry(index, entry):
            raise BadLog(index)
    return tuple(log)


def spread(count, links, places):
    """The places and all that one comes to from them along the links, ascending."""
    found = [place in places for place in range(count)]
    # Each pass but the last comes to a new place, so as many passes as places are enough.
    for _ in range(count):
        for start, reached in links:
            if found[start]:
                found[reached] = True
    return tuple([place for place in range(count) if found[place]])


def links_that_charge(meter, charge, barred=None):
    """The couples of all arrows that charge so much, but the barred one."""
    numbers = [arrow for arrow, its in enumerate(meter.charges) if its == charge and arrow != barred]
    return [meter.chart.arrows[arrow] for arrow in numbers]


def places_behind(meter, places, charge, barred=None):
    """Where one may be behind one charge above 0, from such places on, and any arrows that charge nothing."""
    heads = [head for tail, head in links_that_charge(meter, charge, barred) if tail in places]
    return spread(len(meter.chart.costs), links_that_charge(meter, 0, barred), heads)


def first_places(meter, charge, barred=None):
    """Where one may be behind the first charge, if it is this one, and any arrows that charge nothing."""
    if charge != meter.first:
        return ()
    return spread(len(meter.chart.costs), links_that_charge(meter, 0, barred), (0,))


def place_rows(meter, log, barred=None):
    """For each entry the places where one may be behind it, without the barred arrow; () is the last one."""
    rows = [first_places(meter, log[0], barred)]
    for charge in log[1:]:
        if rows[-1]:
            rows.append(places_behind(meter, rows[-1], charge, barred))
    return rows


def fitting_rows(meter, log):
    """The place rows of a checked log, or Misfit."""
    rows = place_rows(meter, log)
    if not rows[-1]:
        raise Misfit(len(rows) - 1)
    return rows


def find_places(meter, log):
    """The places at which some run with just this log ends, ascending."""
    return fitting_rows(meter, check_log(log))[-1]


def index_behind(meter, log, index, arrow):
    """The index of the last entry behind an arrow, or None if the log does not go on so."""
    charge = meter.charges[arrow]
    if charge == 0:
        return index
    if index + 1 < len(log) and log[index + 1] == charge:
        return index + 1
    return None


def find_log_run(meter, log, place):
    """The run with this log that ends at the place: the fewest arrows, then the least tuple."""
    checked = check_log(log)
    check_place(meter.chart, place)
    if place not in fitting_rows(meter, checked)[-1]:
        raise NotThere(place)
    goal = (len(checked) - 1, place)
    found = {(0, 0): ()}
    waiting = [(0, 0)]
    done = 0
    # Stands wait in the order of their runs, so the first run that comes to a stand is its least one.
    while goal not in found:
        index, tail = waiting[done]
        done = done + 1
        for arrow in meter.chart.outs(tail):
            stand = (index_behind(meter, checked, index, arrow), meter.chart.arrows[arrow][1])
            if stand[0] is not None and stand not in found:
                found[stand] = (*found[(index, tail)], arrow)
                waiting.append(stand)
    return found[goal]


def sure_arrows(meter, log):
    """The arrows that every run with this log takes, ascending."""
    checked = check_log(log)
    fitting_rows(meter, checked)
    numbers = range(len(meter.charges))
    return tuple([arrow for arrow in numbers if not place_rows(meter, checked, arrow)[-1]])


def rest_rows(meter, log):
    """For each entry the places from which some arrows charge just what comes behind it."""
    count = len(meter.chart.costs)
    free = [(head, tail) for tail, head in links_that_charge(meter, 0)]
    rows = [tuple(range(count))]
    for charge in reversed(log[1:]):
        tails = [tail for tail, head in links_that_charge(meter, charge) if head in rows[-1]]
        rows.append(spread(count, free, tails))
    return list(reversed(rows))


def is_taken(meter, log, ahead, rest, arrow):
    """Whether some run with this log takes the arrow, by the places ahead of it and those that let the rest follow."""
    tail, head = meter.chart.arrows[arrow]
    for index, places in enumerate(ahead):
        reached = index_behind(meter, log, index, arrow)
        if tail in places and reached is not None and head in rest[reached]:
            return True
    return False


def some_arrows(meter, log):
    """The arrows that some run with this log takes, ascending."""
    checked = check_log(log)
    ahead = fitting_rows(meter, checked)
    rest = rest_rows(meter, checked)
    return tuple([arrow for arrow in range(len(meter.charges)) if is_taken(meter, checked, ahead, rest, arrow)])


def used_range(meter, log):
    """The least and the greatest number that a run with this log uses; the meter must be even."""
    leads = even_leads(meter)
    if not isinstance(leads, tuple):
        raise NotMetered("even")
    places = find_places(meter, log)
    behinds = [leads[place] - meter.chart.costs[place] for place in places]
    return (sum(log) - max(behinds), sum(log) - min(behinds))
