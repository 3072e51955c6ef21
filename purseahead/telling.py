"""The shortest log that tells two meters apart."""

from purseahead.checking import check_many
from purseahead.logs import first_places, places_behind

MOST_PLACES = 6


def unlike_charges(meter, other):
    """All charges above 0 of the arrows of both meters, ascending, each once."""
    return sorted({charge: True for charge in (*meter.charges, *other.charges) if charge > 0})


def stands_of(meter, charges):
    """For each row of places where one may be behind some log: the rows behind each of the charges."""
    waiting = [first_places(meter, meter.first)]
    stands = {(): [()] * len(charges)}
    while waiting:
        places = waiting.pop()
        if places not in stands:
            stands[places] = [places_behind(meter, places, charge) for charge in charges]
            waiting = [*waiting, *stands[places]]
    return stands


def find_telling(meter, other):
    """The shortest log, of those the least, that one meter makes and the other does not, or None."""
    check_many(len(meter.chart.costs), MOST_PLACES)
    check_many(len(other.chart.costs), MOST_PLACES)
    if meter.first != other.first:
        return (min(meter.first, other.first),)
    charges = unlike_charges(meter, other)
    ours = stands_of(meter, charges)
    theirs = stands_of(other, charges)
    start = (first_places(meter, meter.first), first_places(other, other.first))
    found = {start: (meter.first,)}
    waiting = [start]
    done = 0
    # Couples of rows wait in the order of their logs, so the first log that tells is the least one.
    while done < len(waiting):
        one, two = waiting[done]
        done = done + 1
        for charge, mine, its in zip(charges, ours[one], theirs[two]):
            log = (*found[(one, two)], charge)
            if (mine == ()) != (its == ()):
                return log
            if mine and (mine, its) not in found:
                found[(mine, its)] = log
                waiting.append((mine, its))
    return None
