"""[0.5] and the errors of the interface."""

import unittest

from purseahead import errors

TOLD = """
BadChart(what, index) BadPlace(place) BadArrow(arrow) BadFactor() BadMoves() BadRun(index) BadLength(length)
BadRing(index) BadText(word) BadMeter(what, index) Unlike(what) Drifting(ring, by) BadDemands(what, index)
BadHighs(index) BadLot(index) BadLeads(index) BadLows(index) NotEven(arrow) BadMost(most) TooTight(place)
TooMany(count) BadWeights(index) BadPlaces(index) BadLimit(limit) NotMetered(what) BadGates(index) BadStep(arrow)
BadWorks(what, procedure, place) BadPoint(point) BadSteps(index) BadProcedure(procedure)
BadWorkMeter(what, procedure, index) BadWorkLeads(procedure, place) NotEvenWorks(mark)
BadWorkGates(procedure, place) BadWorkLot(index) RingOfCalls(points) BadKinds(what, index) NoKind(kind)
BadPrices(index) BadKindMeter(index) BadRows(index) NotTwo(kinds) BadMove() CantMove(arrow) Parted(place)
BadCopy(what, index) BadLanes(what, index) NoLane(lane) NotRunning(lane, stand) NoRoom() NotHere(arrow)
Refused(lane, charge, purse) BadDeeds(index) BadLaneRuns(lane) BadLog(index) Misfit(index) NotThere(place)
NothingSeen() BadEdit(index, what) BadGoal() BadPool(index) NothingDone()
"""


def told_classes():
    """Each error with the names of its attributes in order."""
    found = []
    for word in TOLD.replace(", ", ",").split():
        name, attributes = word.rstrip(")").split("(")
        found.append((name, [each for each in attributes.split(",") if each]))
    return found


class Errors(unittest.TestCase):
    def test_all_are_there(self):
        self.assertEqual(len(told_classes()), 63)
        for name, _ in told_classes():
            self.assertIn(name, vars(errors))

    def test_bases(self):
        self.assertEqual(errors.MeterError.__bases__, (ValueError,))
        for name, _ in told_classes():
            self.assertEqual(vars(errors)[name].__bases__, (errors.MeterError,), name)

    def test_attributes_in_order(self):
        for name, attributes in told_classes():
            values = [object() for _ in attributes]
            error = vars(errors)[name](*values)
            self.assertEqual(vars(error), dict(zip(attributes, values)), name)

    def test_attributes_by_name(self):
        for name, attributes in told_classes():
            values = {each: object() for each in attributes}
            self.assertEqual(vars(vars(errors)[name](**values)), values, name)

    def test_number_of_attributes(self):
        for name, attributes in told_classes():
            with self.assertRaises(TypeError, msg=name):
                if attributes:
                    vars(errors)[name](*attributes[1:])
                else:
                    vars(errors)[name](given=1)

    def test_caught_as_value_error(self):
        for name, attributes in told_classes():
            with self.assertRaises(ValueError):
                raise vars(errors)[name](*attributes)


if __name__ == "__main__":
    unittest.main()
