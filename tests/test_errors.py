"""Points 11 and 12: the errors."""

import inspect
import unittest

from anyfactors import errors
from anyfactors.errors import FactorError, NothingToUndo
from checks import ANY_VALUES

# As the interface lists them: each class with its one argument.
ARGUMENTS = {
    "BadName": "name", "DuplicateName": "name", "UnknownName": "name", "BadCount": "count", "BadSet": "value",
    "BadRow": "value", "BadText": "text", "BadNumber": "value", "BadFactors": "value", "BadSteps": "value",
    "BadSum": "value", "Reached": "name", "NotReached": "name", "IsRead": "name", "NotMixed": "name",
    "NoPairing": "value", "SumFollows": "value", "SumNever": "value", "UnlikeUnknowns": "names",
}


def error_classes():
    return {name: kind for name, kind in vars(errors).items() if inspect.isclass(kind)}


class Point11(unittest.TestCase):
    def test_there_are_just_the_listed_classes(self):
        self.assertEqual(sorted(error_classes()), sorted([*ARGUMENTS, "NothingToUndo", "FactorError"]))
        self.assertEqual(len(ARGUMENTS) + 1, 20)

    def test_they_are_defined_in_their_own_file(self):
        for kind in error_classes().values():
            self.assertEqual(kind.__module__, "anyfactors.errors")

    def test_all_are_under_factor_error_and_none_under_another(self):
        self.assertTrue(issubclass(FactorError, ValueError))
        under = [kind for kind in error_classes().values() if kind is not FactorError]
        for kind in under:
            self.assertTrue(issubclass(kind, FactorError), kind)
            self.assertEqual([other for other in under if issubclass(kind, other)], [kind])

    def test_they_can_be_caught_as_value_errors(self):
        for name, argument in ARGUMENTS.items():
            with self.assertRaises(ValueError):
                raise error_classes()[name]("x")
        with self.assertRaises(ValueError):
            raise NothingToUndo()


class Point12(unittest.TestCase):
    def test_each_holds_the_very_argument_by_position_and_by_name(self):
        for name, argument in ARGUMENTS.items():
            kind = error_classes()[name]
            for value in ANY_VALUES:
                self.assertIs(getattr(kind(value), argument), value)
                self.assertIs(getattr(kind(**{argument: value}), argument), value)

    def test_each_takes_just_its_one_argument(self):
        for name, argument in ARGUMENTS.items():
            kind = error_classes()[name]
            self.assertEqual(list(inspect.signature(kind.__init__).parameters), ["self", argument])
            with self.assertRaises(TypeError):
                kind()
            with self.assertRaises(TypeError):
                kind("x", "y")

    def test_a_later_change_to_a_list_shows_in_the_error(self):
        value = ["x"]
        error = errors.BadSet(value)
        value.append("y")
        self.assertEqual(error.value, ["x", "y"])

    def test_nothing_to_undo_takes_no_argument(self):
        self.assertEqual(vars(NothingToUndo()), {})


if __name__ == "__main__":
    unittest.main()
