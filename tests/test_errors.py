"""[20] and what [2] says of errors."""

import unittest

from crosswalls import errors
from crosswalls.errors import FloorError

FIELDS = {
    "InvalidPlan": ["value"],
    "InvalidKind": ["value"],
    "InvalidWay": ["index"],
    "SameKind": ["kind"],
    "OtherPlan": [],
    "InvalidRenaming": ["value"],
    "TooLong": ["length"],
    "TooMany": ["most"],
    "NotCrossing": ["one", "other"],
    "NoWalls": [],
    "NoneBeyond": ["one", "other"],
    "NoRooms": [],
    "InvalidWeights": ["value"],
    "Endless": [],
    "EmptyLot": [],
    "InvalidNumber": ["value"],
    "TooFar": ["number"],
    "NoSuch": ["rank"],
    "NotShortest": ["way"],
    "NotBetween": ["wall"],
    "Moves": ["motion"],
    "Stands": ["motion"],
    "Renamed": ["motion"],
    "InvalidTimes": ["value"],
    "BadTables": ["value"],
    "InvalidTable": ["kind", "place"],
    "NotExchanged": ["place", "first", "second"],
    "NoPlace": ["place"],
    "NotHull": ["room"],
    "InvalidColour": ["value"],
    "NoRegion": ["colour"],
    "NotClosed": [],
    "Broken": ["room", "kind"],
    "NotBarred": ["first", "kind", "second"],
    "NothingToUndo": [],
    "InvalidLine": ["value"],
    "UnknownName": ["name"],
    "NameTaken": ["name"],
    "LineFailed": ["index"],
}


def classes():
    """Each error class beside the names of its fields."""
    return [(getattr(errors, name), fields) for name, fields in FIELDS.items()]


class ErrorTest(unittest.TestCase):

    def test_there_are_no_others(self):
        found = {name for name, held in vars(errors).items() if isinstance(held, type)}
        self.assertEqual(found, set(FIELDS) | {"FloorError"})

    def test_each_is_defined_here(self):
        for error_class, _ in classes() + [(FloorError, [])]:
            self.assertEqual(error_class.__module__, "crosswalls.errors")

    def test_each_stands_directly_below_floor_error(self):
        self.assertEqual(FloorError.__bases__, (ValueError,))
        for error_class, _ in classes():
            self.assertEqual(error_class.__bases__, (FloorError,))

    def test_fields_by_position(self):
        for error_class, fields in classes():
            values = [[field, 1] for field in fields]
            error = error_class(*values)
            self.check_fields(error, fields, values)

    def test_fields_by_name(self):
        for error_class, fields in classes():
            values = [[field, 2] for field in fields]
            for told in (dict(zip(fields, values)), dict(reversed(list(zip(fields, values))))):
                self.check_fields(error_class(**told), fields, values)

    def check_fields(self, error, fields, values):
        for field, value in zip(fields, values):
            self.assertIs(getattr(error, field), value)
        self.assertEqual(list(vars(error)), fields)

    def test_each_is_caught_as_itself_and_as_what_it_derives_from(self):
        for error_class, fields in classes():
            for wanted in (error_class, FloorError, ValueError):
                with self.assertRaises(wanted) as held:
                    raise error_class(*fields)
                self.assertIs(type(held.exception), error_class)

    def test_no_other_class_catches_it(self):
        for error_class, _ in classes():
            above = [other for other, _ in classes() if issubclass(error_class, other)]
            self.assertEqual(above, [error_class])


if __name__ == "__main__":
    unittest.main()
