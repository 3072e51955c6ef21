"""The errors of the package, each straight under MeterError, with what it tells as attributes."""


class MeterError(ValueError):
    pass


class BadChart(MeterError):
    def __init__(self, what, index):
        self.what = what
        self.index = index


class BadPlace(MeterError):
    def __init__(self, place):
        self.place = place


class BadArrow(MeterError):
    def __init__(self, arrow):
        self.arrow = arrow


class BadFactor(MeterError):
    pass


class BadMoves(MeterError):
    pass


class BadRun(MeterError):
    def __init__(self, index):
        self.index = index


class BadLength(MeterError):
    def __init__(self, length):
        self.length = length


class BadRing(MeterError):
    def __init__(self, index):
        self.index = index


class BadText(MeterError):
    def __init__(self, word):
        self.word = word


class BadMeter(MeterError):
    def __init__(self, what, index):
        self.what = what
        self.index = index


class Unlike(MeterError):
    def __init__(self, what):
        self.what = what


class Drifting(MeterError):
    def __init__(self, ring, by):
        self.ring = ring
        self.by = by


class BadDemands(MeterError):
    def __init__(self, what, index):
        self.what = what
        self.index = index


class BadHighs(MeterError):
    def __init__(self, index):
        self.index = index


class BadLot(MeterError):
    def __init__(self, index):
        self.index = index


class BadLeads(MeterError):
    def __init__(self, index):
        self.index = index


class BadLows(MeterError):
    def __init__(self, index):
        self.index = index


class NotEven(MeterError):
    def __init__(self, arrow):
        self.arrow = arrow


class BadMost(MeterError):
    def __init__(self, most):
        self.most = most


class TooTight(MeterError):
    def __init__(self, place):
        self.place = place


class TooMany(MeterError):
    def __init__(self, count):
        self.count = count


class BadWeights(MeterError):
    def __init__(self, index):
        self.index = index


class BadPlaces(MeterError):
    def __init__(self, index):
        self.index = index


class BadLimit(MeterError):
    def __init__(self, limit):
        self.limit = limit


class NotMetered(MeterError):
    def __init__(self, what):
        self.what = what


class BadGates(MeterError):
    def __init__(self, index):
        self.index = index


class BadStep(MeterError):
    def __init__(self, arrow):
        self.arrow = arrow


class BadWorks(MeterError):
    def __init__(self, what, procedure, place):
        self.what = what
        self.procedure = procedure
        self.place = place


class BadPoint(MeterError):
    def __init__(self, point):
        self.point = point


class BadSteps(MeterError):
    def __init__(self, index):
        self.index = index


class BadProcedure(MeterError):
    def __init__(self, procedure):
        self.procedure = procedure


class BadWorkMeter(MeterError):
    def __init__(self, what, procedure, index):
        self.what = what
        self.procedure = procedure
        self.index = index


class BadWorkLeads(MeterError):
    def __init__(self, procedure, place):
        self.procedure = procedure
        self.place = place


class NotEvenWorks(MeterError):
    def __init__(self, mark):
        self.mark = mark


class BadWorkGates(MeterError):
    def __init__(self, procedure, place):
        self.procedure = procedure
        self.place = place


class BadWorkLot(MeterError):
    def __init__(self, index):
        self.index = index


class RingOfCalls(MeterError):
    def __init__(self, points):
        self.points = points


class BadKinds(MeterError):
    def __init__(self, what, index):
        self.what = what
        self.index = index


class NoKind(MeterError):
    def __init__(self, kind):
        self.kind = kind


class BadPrices(MeterError):
    def __init__(self, index):
        self.index = index


class BadKindMeter(MeterError):
    def __init__(self, index):
        self.index = index


class BadRows(MeterError):
    def __init__(self, index):
        self.index = index


class NotTwo(MeterError):
    def __init__(self, kinds):
        self.kinds = kinds


class BadMove(MeterError):
    pass


class CantMove(MeterError):
    def __init__(self, arrow):
        self.arrow = arrow


class Parted(MeterError):
    def __init__(self, place):
        self.place = place


class BadCopy(MeterError):
    def __init__(self, what, index):
        self.what = what
        self.index = index


class BadLanes(MeterError):
    def __init__(self, what, index):
        self.what = what
        self.index = index


class NoLane(MeterError):
    def __init__(self, lane):
        self.lane = lane


class NotRunning(MeterError):
    def __init__(self, lane, stand):
        self.lane = lane
        self.stand = stand


class NoRoom(MeterError):
    pass


class NotHere(MeterError):
    def __init__(self, arrow):
        self.arrow = arrow


class Refused(MeterError):
    def __init__(self, lane, charge, purse):
        self.lane = lane
        self.charge = charge
        self.purse = purse


class BadDeeds(MeterError):
    def __init__(self, index):
        self.index = index


class BadLaneRuns(MeterError):
    def __init__(self, lane):
        self.lane = lane


class BadLog(MeterError):
    def __init__(self, index):
        self.index = index


class Misfit(MeterError):
    def __init__(self, index):
        self.index = index


class NotThere(MeterError):
    def __init__(self, place):
        self.place = place


class NothingSeen(MeterError):
    pass


class BadEdit(MeterError):
    def __init__(self, index, what):
        self.index = index
        self.what = what


class BadGoal(MeterError):
    pass


class BadPool(MeterError):
    def __init__(self, index):
        self.index = index


class NothingDone(MeterError):
    pass
