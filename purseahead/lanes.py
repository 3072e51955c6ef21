"""Lanes: runs of even and covered meters that pay from one purse, one deed at a time."""

from purseahead.charts import check_arrow
from purseahead.checking import is_sequence, is_within, replaced
from purseahead.errors import BadLanes, NoLane, NoRoom, NotHere, NotRunning, Refused
from purseahead.meters import Meter
from purseahead.stops import check_limit, good_leads

MOST_METERS = 3
MOST_LANES = 6


def check_meters(meters):
    """Return the meters of lanes as a tuple, or raise BadLanes or NotMetered."""
    if not is_sequence(meters) or not 1 <= len(meters) <= MOST_METERS:
        raise BadLanes("meters", 0)
    for index, meter in enumerate(meters):
        if not isinstance(meter, Meter):
            raise BadLanes("meter", index)
    for meter in meters:
        good_leads(meter)
    return tuple(meters)


def leads_behind(meter):
    """The lead behind each place."""
    return tuple([lead - cost for lead, cost in zip(good_leads(meter), meter.chart.costs)])


class Lanes:
    """Lanes on one purse; the grounds of a lane are the number of its meter."""

    def __init__(self, meters, limit):
        self.meters = check_meters(meters)
        self.limit = check_limit(limit)
        self.purse = self.limit
        self.used = 0
        self.unused = self.limit
        self.stands = ("fresh",) * len(self.meters)
        self.places = (None,) * len(self.meters)
        self.grounds = tuple(range(len(self.meters)))
        self.behinds = tuple([leads_behind(meter) for meter in self.meters])

    @property
    def held_now(self):
        """The leads behind the places of the running lanes, together."""
        lanes = range(len(self.stands))
        return sum([self.held_by(lane) for lane in lanes if self.stands[lane] == "running"])

    def held_by(self, lane):
        return self.behinds[self.grounds[lane]][self.places[lane]]

    def check_lane(self, lane, stand):
        """Raise NoLane, or NotRunning if the lane's stand is another one."""
        if not is_within(lane, 0, len(self.stands) - 1):
            raise NoLane(lane)
        if self.stands[lane] != stand:
            raise NotRunning(lane, self.stands[lane])

    def pay(self, lane, charge):
        if charge > self.purse:
            raise Refused(lane, charge, self.purse)
        self.purse = self.purse - charge

    def use(self, lane, place):
        """The lane uses the place and stands there."""
        self.used = self.used + self.meters[self.grounds[lane]].chart.costs[place]
        self.unused = self.limit - self.used
        self.places = replaced(self.places, lane, place)

    def begin(self, lane):
        """Make a fresh lane run; return its place, 0."""
        self.check_lane(lane, "fresh")
        self.pay(lane, self.meters[self.grounds[lane]].first)
        self.stands = replaced(self.stands, lane, "running")
        self.use(lane, 0)
        return 0

    def take(self, lane, arrow):
        """Go along an arrow out of the lane's place; return its head."""
        self.check_lane(lane, "running")
        meter = self.meters[self.grounds[lane]]
        tail, head = meter.chart.arrows[check_arrow(meter.chart, arrow)]
        if tail != self.places[lane]:
            raise NotHere(arrow)
        self.pay(lane, meter.charges[arrow])
        self.use(lane, head)
        return head

    def fork(self, lane):
        """Add a running lane at the place of a running one; return its number."""
        self.check_lane(lane, "running")
        if len(self.stands) == MOST_LANES:
            raise NoRoom()
        self.pay(lane, self.held_by(lane))
        self.stands = (*self.stands, "running")
        self.places = (*self.places, self.places[lane])
        self.grounds = (*self.grounds, self.grounds[lane])
        return len(self.stands) - 1

    def close(self, lane):
        """End a running lane; return what goes back into the purse."""
        self.check_lane(lane, "running")
        held = self.held_by(lane)
        self.purse = self.purse + held
        self.stands = replaced(self.stands, lane, "closed")
        return held
