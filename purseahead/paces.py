"""The two-paced code: charges at fast pace, place by place at slow pace."""

from purseahead.bounded import all_needs, need_from
from purseahead.charts import is_arrow
from purseahead.checking import is_row, is_within
from purseahead.errors import BadGates, BadStep
from purseahead.runs import check_run, run_to, used_by
from purseahead.stops import charged_starts, check_limit, check_span, good_leads, least_spans, plain_stop, span_from


class Paced:
    def __init__(self, places, unused, paces, purse_tests, slow_tests):
        self.places = places
        self.unused = unused
        self.paces = paces
        self.purse_tests = purse_tests
        self.slow_tests = slow_tests

    def __eq__(self, other):
        return (isinstance(other, Paced) and self.places == other.places and self.unused == other.unused
                and self.paces == other.paces and self.purse_tests == other.purse_tests
                and self.slow_tests == other.slow_tests)


class Parting:
    def __init__(self, place, run, limit):
        self.place = place
        self.run = run
        self.limit = limit

    def __eq__(self, other):
        return (isinstance(other, Parting) and self.place == other.place
                and self.run == other.run and self.limit == other.limit)


class SlowGo:
    def __init__(self, number, run, limit):
        self.number = number
        self.run = run
        self.limit = limit

    def __eq__(self, other):
        return (isinstance(other, SlowGo) and self.number == other.number
                and self.run == other.run and self.limit == other.limit)


class Pacing:
    """Where the two-paced code stands: held is its purse at fast pace, its rest otherwise."""

    def __init__(self, limit):
        self.pace = "slow"
        self.places = 0
        self.purse_tests = 0
        self.slow_tests = 0
        self.held = limit
        self.behind = 0

    def left_now(self):
        """What is unused."""
        if self.pace == "fast":
            return self.held + self.behind
        return self.held

    def go_on(self, charge, lead, cost, gate):
        """Go on to a place, along an arrow that charges so much; the first place charges nothing."""
        if self.pace == "fast" and charge > 0:
            self.try_purse(charge)
        if self.pace == "slow":
            self.try_slowly(lead, cost, gate)
        if self.pace == "fast":
            self.behind = lead - cost
        if self.pace != "stopped":
            self.places = self.places + 1

    def try_purse(self, charge):
        """One purse test: pay the charge, or become slow."""
        self.purse_tests = self.purse_tests + 1
        if self.held >= charge:
            self.held = self.held - charge
        else:
            self.held = self.left_now()
            self.pace = "slow"

    def try_slowly(self, lead, cost, gate):
        """One slow test: become fast, use the place out of the rest, or stop."""
        self.slow_tests = self.slow_tests + 1
        if self.held >= gate:
            self.held = self.held - lead
            self.pace = "fast"
        elif self.held >= cost:
            self.held = self.held - cost
        else:
            self.pace = "stopped"


def paced_visits(limit, visits):
    """The Paced of the two-paced code along visits, each told as (charge, lead, cost, gate)."""
    pacing = Pacing(limit)
    paces = []
    for charge, lead, cost, gate in visits:
        pacing.go_on(charge, lead, cost, gate)
        if pacing.pace == "stopped":
            break
        paces.append(pacing.pace)
    return Paced(pacing.places, pacing.left_now(), tuple(paces), pacing.purse_tests, pacing.slow_tests)


def fitting_gates(leads, gates):
    """Return the gates as a tuple, for None the leads, or raise BadGates."""
    if gates is None:
        return leads
    if not is_row(gates, len(leads)):
        raise BadGates(0)
    for place, lead in enumerate(leads):
        if not is_within(gates[place], 0, lead):
            raise BadGates(place)
    return tuple(gates)


def check_gates(meter, gates):
    """Return the gates of an even and covered meter as a tuple, for None its leads, or raise BadGates."""
    leads = good_leads(meter)
    return fitting_gates(leads, gates)


def least_gates(meter):
    """The most that can be used from each place on along uncharged arrows."""
    good_leads(meter)
    # In an even meter a ring of uncharged arrows uses nothing, so no need is endless.
    return all_needs(meter.chart, meter.charged_arrows)


def two_paced(meter, run, limit, *, gates=None):
    """What the two-paced code does along the run."""
    leads = good_leads(meter)
    checked = check_run(meter.chart, run)
    check_limit(limit)
    fitting = fitting_gates(leads, gates)
    costs = meter.chart.costs
    visits = [(meter.first, leads[0], costs[0], fitting[0])]
    for arrow in checked:
        head = meter.chart.arrows[arrow][1]
        visits.append((meter.charges[arrow], leads[head], costs[head], fitting[head]))
    return paced_visits(limit, visits)


def tests_saved(meter, run, limit, *, gates=None):
    """The number of tests of plain counting less those of the two-paced code."""
    paced = two_paced(meter, run, limit, gates=gates)
    used = plain_stop(meter.chart, run, limit)
    # A run that is used whole ends without the test that would stop it.
    tests = min(used + 1, len(run) + 1)
    return tests - paced.purse_tests - paced.slow_tests


def find_parting(meter, gates):
    """None if the gates are right, else a run and limit on which the least place with a bad gate spoils the count."""
    fitting = check_gates(meter, gates)
    lot = meter.charged_arrows
    chart = meter.chart
    for place, need in enumerate(least_gates(meter)):
        if fitting[place] < need:
            run = run_to(chart, place)
            # With just the gate left ahead of the place the code uses more from there on without a test.
            limit = used_by(chart, run) - chart.costs[place] + fitting[place]
            return Parting(place, (*run, *need_from(chart, lot, place).run), limit)
    return None


def slow_most(meter, gates, most):
    """The greatest number of places, but at most `most`, that are used at slow pace one directly after another."""
    fitting = check_gates(meter, gates)
    check_span(most)
    chart = meter.chart
    rows = least_spans(chart, fitting, most)
    starts = charged_starts(meter)
    for number in reversed(range(1, most + 1)):
        for place, run in starts:
            least = rows[number - 1][place]
            if least is not None:
                way = span_from(chart, rows, place, number)
                # Just these places are left to be paid, and each rest is below its gate.
                limit = used_by(chart, run) - chart.costs[place] + least
                return SlowGo(number, (*run, *way), limit)
    return SlowGo(0, (), chart.costs[0])


class Purse(Pacing):
    """The two-paced code, step by step."""

    def __init__(self, meter, limit, gates=None):
        leads = good_leads(meter)
        check_limit(limit)
        fitting = fitting_gates(leads, gates)
        Pacing.__init__(self, limit)
        self.meter = meter
        self.leads = leads
        self.gates = fitting
        self.place = 0
        self.go_to(meter.first, 0)

    @property
    def unused_now(self):
        return self.left_now()

    def go_to(self, charge, place):
        """Come to a place along an arrow that charges so much; return the pace behind it."""
        self.go_on(charge, self.leads[place], self.meter.chart.costs[place], self.gates[place])
        if self.pace != "stopped":
            self.place = place
        return self.pace

    def take(self, arrow):
        """Take an arrow out of the present place; return the pace behind it."""
        chart = self.meter.chart
        if self.pace == "stopped" or not is_arrow(chart, arrow) or chart.arrows[arrow][0] != self.place:
            raise BadStep(arrow)
        return self.go_to(self.meter.charges[arrow], chart.arrows[arrow][1])

    def fill(self, amount):
        """Make the limit greater; return the pace."""
        check_limit(amount)
        self.held = self.held + amount
        if self.pace == "stopped":
            self.pace = "slow"
            if self.places == 0:
                return self.go_to(self.meter.first, 0)
        return self.pace
