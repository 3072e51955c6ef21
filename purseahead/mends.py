"""Choices out of a pool of edits that lead a case to a goal, or away from it."""

from purseahead.checking import check_many, is_sequence
from purseahead.edits import apply_edits, check_goal, is_edit, meets_goal
from purseahead.errors import BadEdit, BadPool
from purseahead.evenness import check_lot, lots_by_number

MOST_POOL = 6
MOST_ARROWS = 10


def check_pool(pool):
    """Return the pool as a tuple of tuples, or raise BadPool."""
    if not is_sequence(pool) or not 1 <= len(pool) <= MOST_POOL:
        raise BadPool(0)
    for index, edit in enumerate(pool):
        if not is_edit(edit):
            raise BadPool(index)
    return tuple([tuple(edit) for edit in pool])


def check_search(chart, lot, pool, goal):
    """Return lot, pool and goal as tuples, or raise BadLot, BadPool, BadGoal or TooMany, in this order."""
    checked = (check_lot(chart, lot), check_pool(pool), check_goal(goal))
    if goal[0] == "fewest":
        added = [edit for edit in pool if edit[0] == "add"]
        check_many(len(chart.arrows) + len(added), MOST_ARROWS)
    return checked


def meets_behind(chart, lot, edits, goal):
    """Whether the case meets the goal behind the edits, or None if they cannot be made."""
    try:
        changed, left = apply_edits(chart, lot, edits)
    except BadEdit:
        return None
    return meets_goal(changed, left, goal)


def holds(choice, smaller):
    """Whether a choice contains all entries of another one."""
    return all([number in choice for number in smaller])


def least_choices(chart, search, wanted):
    """Yield each choice behind which the case meets the goal, or not, as wanted, if no smaller one of its is so."""
    lot, pool, goal = search
    found = []
    for choice in lots_by_number(len(pool)):
        if not any([holds(choice, smaller) for smaller in found]):
            if meets_behind(chart, lot, [pool[number] for number in choice], goal) == wanted:
                found.append(choice)
                yield choice


def find_mends(chart, lot, pool, goal):
    """Yield the choices that mend the case, without a smaller one within them, by number, then ascending."""
    search = check_search(chart, lot, pool, goal)
    yield from least_choices(chart, search, True)


def find_spoilers(chart, lot, pool, goal):
    """Yield the choices that lead to a case that does not meet the goal, in the same way."""
    search = check_search(chart, lot, pool, goal)
    yield from least_choices(chart, search, False)
