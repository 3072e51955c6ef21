"""Claims that every even lot meets, the least even lots, and one with the fewest arrows."""

from purseahead.charts import is_place
from purseahead.checking import check_many, is_whole, is_whole_tuple
from purseahead.errors import BadMost, TooTight
from purseahead.evenness import BadWalk, lots_by_number, step_ends, walk_places, walk_sum
from purseahead.leastmeters import chain_of, least_even

MOST_ARROWS = 10


class Claim:
    def __init__(self, arrows, start, steps):
        self.arrows = arrows
        self.start = start
        self.steps = steps

    def __eq__(self, other):
        return (isinstance(other, Claim) and self.arrows == other.arrows
                and self.start == other.start and self.steps == other.steps)


class Fewest:
    def __init__(self, number, lot, floor):
        self.number = number
        self.lot = lot
        self.floor = floor

    def __eq__(self, other):
        return (isinstance(other, Fewest) and self.number == other.number
                and self.lot == other.lot and self.floor == other.floor)


def check_most(chart, most):
    """Return the most, or raise BadMost or TooTight."""
    check_form(most)
    check_room(chart, most)
    return most


def check_form(most):
    if most is not None and (not is_whole(most) or most < 0):
        raise BadMost(most)


def check_room(chart, most):
    for place, cost in enumerate(chart.costs):
        if most is not None and cost > most:
            raise TooTight(place)


def check_case(chart, most):
    """Raise BadMost, TooMany or TooTight, in this order."""
    check_form(most)
    check_many(len(chart.arrows), MOST_ARROWS)
    check_room(chart, most)


def without(lot, arrow):
    return tuple([other for other in lot if other != arrow])


def one_less(lot):
    """The lots with one arrow less."""
    return [without(lot, arrow) for arrow in lot]


def claim_along(chart, arrows, most):
    """A claim whose walk goes back along none but these arrows, or None; it names all of them."""
    lot = [arrow for arrow in range(len(chart.arrows)) if arrow not in arrows]
    found = least_even(chart, lot)
    if isinstance(found, BadWalk):
        return Claim(arrows, step_ends(chart, found.steps[0])[0], found.steps)
    for place, lead in enumerate(found.leads):
        if most is not None and lead > most:
            start, steps = chain_of(chart, found, place)
            return Claim(arrows, start, steps)
    return None


def find_claims(chart, *, most=None):
    """One Claim for each least claim, by number of arrows, then ascending."""
    check_case(chart, most)
    holds_claim = {}
    claims = []
    for arrows in lots_by_number(len(chart.arrows)):
        holds_claim[arrows] = any([holds_claim[less] for less in one_less(arrows)])
        if not holds_claim[arrows]:
            # No smaller lot holds a claim, so a walk goes back along all of these arrows or there is none.
            claim = claim_along(chart, arrows, most)
            if claim is not None:
                holds_claim[arrows] = True
                claims.append(claim)
    return tuple(claims)


def back_arrows(steps):
    """The arrows that the steps go back along, ascending, each once."""
    return tuple(sorted({arrow: True for arrow, sense in steps if sense == "back"}))


def is_too_heavy(chart, claim, places, most):
    """Whether the claim's walk through these places is heavy or tall."""
    total = walk_sum(chart, claim.steps)
    # A walk without steps has the sum 0.
    if places[-1] == claim.start and total > 0:
        return True
    return most is not None and chart.costs[claim.start] + total > most


def claim_fault(chart, claim, *, most=None):
    """None, or the first of "steps", "arrows", "light" that is wrong with a Claim."""
    check_case(chart, most)
    if not is_place(chart, claim.start) or not isinstance(claim.steps, tuple):
        return "steps"
    places = walk_places(chart, claim.start, claim.steps)
    if places is None:
        return "steps"
    arrows = back_arrows(claim.steps)
    if not is_whole_tuple(claim.arrows, len(arrows)) or claim.arrows != arrows:
        return "arrows"
    if not is_too_heavy(chart, claim, places, most):
        return "light"
    return None


def meets(lot, claims):
    """Whether the lot contains an arrow of every claim."""
    return all([any([arrow in lot for arrow in claim.arrows]) for claim in claims])


def first_even_lots(chart, claims):
    """The least even lots, by number of arrows, then ascending."""
    even = {}
    found = []
    for lot in lots_by_number(len(chart.arrows)):
        even[lot] = any([even[less] for less in one_less(lot)])
        if not even[lot] and meets(lot, claims):
            even[lot] = True
            found.append(lot)
    return found


def least_lots(chart, *, most=None):
    """Yield every least even lot, by number of arrows, then ascending."""
    claims = find_claims(chart, most=most)
    yield from first_even_lots(chart, claims)


def floor_of(claims):
    """The least claims that have no arrow in common with those taken before."""
    taken = []
    floor = []
    for claim in claims:
        if not any([arrow in taken for arrow in claim.arrows]):
            taken = [*taken, *claim.arrows]
            floor.append(claim.arrows)
    return tuple(floor)


def fewest(chart, *, most=None):
    """The first even lot with the fewest arrows, and claims that show that no lot has fewer."""
    claims = find_claims(chart, most=most)
    lot = first_even_lots(chart, claims)[0]
    return Fewest(len(lot), lot, floor_of(claims))


def needed_arrows(chart, *, most=None):
    """The arrows that every even lot contains, and those that no least even lot contains."""
    lots = first_even_lots(chart, find_claims(chart, most=most))
    numbers = range(len(chart.arrows))
    always = tuple([arrow for arrow in numbers if all([arrow in lot for lot in lots])])
    never = tuple([arrow for arrow in numbers if not any([arrow in lot for lot in lots])])
    return (always, never)
