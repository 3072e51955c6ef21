"""Parts, and rings: closed rows of arrows."""

from purseahead.charts import check_arrow, check_place, is_arrow
from purseahead.checking import is_sequence
from purseahead.errors import BadRing

MOST_PASSED = 400


def come_to(chart, place):
    """For each place whether one comes to it from the given place along one arrow or more."""
    found = [False] * len(chart.costs)
    # Each pass but the last finds a new place, so one pass for each place is enough.
    for _ in range(len(chart.costs)):
        for tail, head in chart.arrows:
            if tail == place or found[tail]:
                found[head] = True
    return found


def come_to_rows(chart):
    return [come_to(chart, place) for place in range(len(chart.costs))]


def part_in(rows, place):
    """The part with the place, ascending, or None."""
    if not rows[place][place]:
        return None
    return tuple([other for other in range(len(rows)) if rows[place][other] and rows[other][place]])


def parts_of(chart):
    """The parts as ascending tuples, ordered by their least places."""
    rows = come_to_rows(chart)
    parts = []
    for place in range(len(rows)):
        part = part_in(rows, place)
        if part is not None and part[0] == place:
            parts.append(part)
    return tuple(parts)


def part_of(chart, place):
    """The part with the place, or None."""
    check_place(chart, place)
    return part_in(come_to_rows(chart), place)


def within_part(chart, arrow):
    """Whether tail and head of the arrow are in the same part."""
    check_arrow(chart, arrow)
    tail, head = chart.arrows[arrow]
    return come_to(chart, head)[tail]


def check_ring(chart, ring):
    """Return the ring as a tuple, or raise BadRing."""
    if not is_sequence(ring) or not 1 <= len(ring) <= MOST_PASSED:
        raise BadRing(0)
    place = None
    for index, arrow in enumerate(ring):
        if not is_arrow(chart, arrow) or place not in (None, chart.arrows[arrow][0]):
            raise BadRing(index)
        place = chart.arrows[arrow][1]
    if place != chart.arrows[ring[0]][0]:
        raise BadRing(len(ring) - 1)
    return tuple(ring)


def ring_places(chart, ring):
    """The tails of the ring's arrows in order."""
    return tuple([chart.arrows[arrow][0] for arrow in check_ring(chart, ring)])


def rings_of(chart):
    """Yield the simple rings from their least places on: by least place, then ascending."""
    for start in range(len(chart.costs)):
        yield from rings_from(chart, start)


def rings_from(chart, start):
    """Yield the simple rings whose least place is start, ascending."""
    waiting = [(start, (start,), ())]
    while waiting:
        place, passed, ring = waiting.pop()
        if ring and place == start:
            yield ring
            continue
        for arrow in reversed(chart.outs(place)):
            head = chart.arrows[arrow][1]
            # Only rows that some ring goes on from are kept, so no time is lost between two rings.
            if comes_back(chart, passed, head):
                waiting.append((head, (*passed, head), (*ring, arrow)))


def comes_back(chart, passed, place):
    """Whether a place that is not passed, and not below the first one, leads back to the first one."""
    start = passed[0]
    if place == start:
        return True
    free = [other > start and other not in passed for other in range(len(chart.costs))]
    if not free[place]:
        return False
    found = [False] * len(chart.costs)
    found[place] = True
    for _ in range(len(chart.costs)):
        for tail, head in chart.arrows:
            if found[tail] and (free[head] or head == start):
                found[head] = True
    return found[start]
