"""A watch that reads a log entry by entry."""

from purseahead.errors import BadLog, NothingSeen
from purseahead.logs import MOST_ENTRIES, find_places


class Watch:
    def __init__(self, meter):
        self.meter = meter
        self.log = ()
        self.places = ()

    def see(self, charge):
        """Add an entry to the log; return the places where the run may be."""
        if len(self.log) == MOST_ENTRIES:
            raise BadLog(MOST_ENTRIES)
        # The entries before fit, so any error tells the index of the new one.
        log = (*self.log, charge)
        self.places = find_places(self.meter, log)
        self.log = log
        return self.places

    def take_back(self):
        """Undo the last entry that stands; return it."""
        if not self.log:
            raise NothingSeen()
        charge = self.log[-1]
        self.log = self.log[:-1]
        self.places = ()
        if self.log:
            self.places = find_places(self.meter, self.log)
        return charge
