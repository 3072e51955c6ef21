"""Edits of a case, a chart with a lot of it, and goals that a case may meet."""

from purseahead.bounded import Bounded, bounded_meter
from purseahead.charts import MOST_ARROWS, MOST_COST, Chart, first_unreached
from purseahead.checking import is_row, is_sequence, is_whole_row, is_within, replaced
from purseahead.errors import BadEdit, BadGoal
from purseahead.evenness import Even, check_lot
from purseahead.fewest import fewest
from purseahead.leastmeters import least_even

MOST_EDITS = 64
MOST_WITHIN = 10 ** 12
MOST_FEWEST = 32
LOT_WORDS = ("lay", "lift")
CHART_WORDS = ("cost", "aim", "add")


def is_edit(value):
    """Whether a value is an edit by its form, whatever its numbers are."""
    if is_row(value, 2):
        return value[0] in LOT_WORDS and is_whole_row(value[1:], 1)
    return is_row(value, 3) and value[0] in CHART_WORDS and is_whole_row(value[1:], 2)


def is_number_below(number, count):
    return is_within(number, 0, count - 1)


def cost_fault(costs, place, cost):
    if not is_number_below(place, len(costs)):
        return "place"
    if not is_within(cost, 0, MOST_COST):
        return "cost"
    return None


def lot_fault(arrows, lot, word, arrow):
    if not is_number_below(arrow, len(arrows)):
        return "arrow"
    if word == "lay" and arrow in lot:
        return "laid"
    if word == "lift" and arrow not in lot:
        return "bare"
    return None


def aimed(arrows, arrow, head):
    """The arrows, one of them with another head."""
    return replaced(arrows, arrow, (arrows[arrow][0], head))


def aim_fault(costs, arrows, arrow, head):
    if not is_number_below(arrow, len(arrows)):
        return "arrow"
    if not is_number_below(head, len(costs)):
        return "place"
    if first_unreached(len(costs), aimed(arrows, arrow, head)) is not None:
        return "reached"
    return None


def add_fault(costs, arrows, tail, head):
    if not is_number_below(tail, len(costs)) or not is_number_below(head, len(costs)):
        return "place"
    if len(arrows) == MOST_ARROWS:
        return "many"
    return None


def edit_fault(case, edit):
    """The first word that is wrong with an edit of the case (costs, arrows, lot), or None."""
    costs, arrows, lot = case
    if not is_edit(edit):
        return "form"
    if edit[0] == "cost":
        return cost_fault(costs, edit[1], edit[2])
    if edit[0] == "aim":
        return aim_fault(costs, arrows, edit[1], edit[2])
    if edit[0] == "add":
        return add_fault(costs, arrows, edit[1], edit[2])
    return lot_fault(arrows, lot, edit[0], edit[1])


def edited(case, edit):
    """The case (costs, arrows, lot) behind an edit that nothing is wrong with."""
    costs, arrows, lot = case
    if edit[0] == "cost":
        return (replaced(costs, edit[1], edit[2]), arrows, lot)
    if edit[0] == "aim":
        return (costs, aimed(arrows, edit[1], edit[2]), lot)
    if edit[0] == "add":
        return (costs, (*arrows, (edit[1], edit[2])), lot)
    if edit[0] == "lay":
        return (costs, arrows, tuple(sorted((*lot, edit[1]))))
    return (costs, arrows, tuple([arrow for arrow in lot if arrow != edit[1]]))


def apply_edits(chart, lot, edits):
    """The couple of chart and lot behind the edits, or BadEdit."""
    case = (chart.costs, chart.arrows, check_lot(chart, lot))
    if not is_sequence(edits) or len(edits) > MOST_EDITS:
        raise BadEdit(0, "form")
    for index, edit in enumerate(edits):
        wrong = edit_fault(case, edit)
        if wrong is not None:
            raise BadEdit(index, wrong)
        case = edited(case, edit)
    costs, arrows, changed = case
    return (Chart(costs, arrows), changed)


def is_goal(value):
    if is_row(value, 1):
        return value[0] in ("even", "bounded")
    if not is_row(value, 2):
        return False
    if value[0] == "within":
        return is_within(value[1], 0, MOST_WITHIN)
    return value[0] == "fewest" and is_within(value[1], 0, MOST_FEWEST)


def check_goal(goal):
    """Return the goal as a tuple, or raise BadGoal."""
    if not is_goal(goal):
        raise BadGoal()
    return tuple(goal)


def meets_goal(chart, lot, goal):
    """Whether the case meets the goal."""
    checked = check_lot(chart, lot)
    word = check_goal(goal)[0]
    if word == "fewest":
        return fewest(chart).number <= goal[1]
    if word == "bounded":
        return isinstance(bounded_meter(chart, checked), Bounded)
    found = least_even(chart, checked)
    if not isinstance(found, Even):
        return False
    return word == "even" or max(found.leads) <= goal[1]
