import unittest

from tripmeans import errors
from tripmeans.errors import TripError

PARAMETERS = {
    "BadNumber": ["thing"], "BadWall": ["thing"], "BadWalls": ["thing"], "NotRoomy": [], "BadKind": ["thing"],
    "BadIns": ["thing"], "BadFacts": ["thing"], "BadBody": ["thing"], "BadStatement": ["number"],
    "BadOuts": ["thing"], "BadProgram": ["thing"], "BadText": ["at"], "BadBound": ["thing"], "BadGiven": ["thing"],
    "BadForms": ["thing"], "NotSingle": [], "Unlike": ["thing"], "TooWide": ["number"], "BadWanted": ["thing"],
    "BadTree": ["thing"], "BadItems": ["thing"], "OtherItems": [], "BadRounds": ["thing"], "TooMany": ["most"],
    "BadPass": ["thing"], "NoPlace": ["number"], "BadRule": ["thing"], "BadName": ["thing"], "NoName": ["thing"],
    "NameTaken": ["thing"], "InUse": ["thing"], "BadPromise": ["thing"], "NoPromise": ["thing"],
    "Unkept": ["promise", "fault"], "BadEdit": ["number"], "NothingToUndo": [], "NothingToRedo": [],
}
VALUES = (3, -1, None, True, "a", (), (1, (2, None)), [1, {}], {"a": [2]})


class Errors(unittest.TestCase):
    def test_all_are_direct_subclasses(self):
        self.assertEqual(TripError.__bases__, (Exception,))
        for name in PARAMETERS:
            self.assertEqual(getattr(errors, name).__bases__, (TripError,), name)

    def test_there_are_no_others(self):
        found = [name for name, thing in vars(errors).items() if isinstance(thing, type)]
        self.assertEqual(sorted(found), sorted([*PARAMETERS, "TripError"]))

    def test_all_are_defined_there(self):
        for name in PARAMETERS:
            self.assertEqual(getattr(errors, name).__module__, "tripmeans.errors")

    def test_parameters_are_attributes(self):
        for name, parameters in PARAMETERS.items():
            for value in VALUES:
                values = [value, [value]][:len(parameters)]
                for error in (getattr(errors, name)(*values), getattr(errors, name)(**dict(zip(parameters, values)))):
                    for parameter, given in zip(parameters, values):
                        self.assertIs(getattr(error, parameter), given, name)
                    self.assertIsInstance(str(error), str)

    def test_they_can_be_raised_and_caught(self):
        for name, parameters in PARAMETERS.items():
            with self.assertRaises(TripError):
                raise getattr(errors, name)(*parameters)


if __name__ == "__main__":
    unittest.main()
