"""Points 4 and 14: sets of unknowns."""

import inspect
import itertools
import unittest

from anyfactors import shapes
from anyfactors.shapes import all_sets, is_set
from checks import ANY_VALUES, PromiseCase

EIGHT = ("a", "b1", "b2", "c", "flow1", "x", "y", "z")


class AllSets(PromiseCase):
    def test_three_names(self):
        self.same(
            all_sets(("x", "y", "z")),
            [(), ("x",), ("y",), ("z",), ("x", "y"), ("x", "z"), ("y", "z"), ("x", "y", "z")],
        )

    def test_few_names(self):
        self.same(all_sets(()), [()])
        self.same(all_sets(("q",)), [(), ("q",)])
        self.same(all_sets(("a", "a1")), [(), ("a",), ("a1",), ("a", "a1")])

    def test_each_number_of_names(self):
        for many in range(9):
            names = EIGHT[:many]
            wanted = [chosen for size in range(many + 1) for chosen in itertools.combinations(names, size)]
            self.same(self.given(all_sets, names), wanted)
            self.assertEqual(len(wanted), 2 ** many)

    def test_order(self):
        found = all_sets(EIGHT)
        for before, after in zip(found, found[1:]):
            self.assertTrue(len(before) < len(after) or len(before) == len(after) and before < after)

    def test_a_new_list_each_time(self):
        found = all_sets(("x", "y"))
        found.append("more")
        self.same(all_sets(("x", "y")), [(), ("x",), ("y",), ("x", "y")])

    def test_by_name(self):
        self.same(all_sets(names=("x",)), [(), ("x",)])
        self.assertEqual(list(inspect.signature(all_sets).parameters), ["names"])
        self.assertEqual(shapes.all_sets.__module__, "anyfactors.shapes")


class IsSet(PromiseCase):
    def test_sets(self):
        for many in range(9):
            for chosen in all_sets(EIGHT[:many]):
                self.assertIs(self.given(is_set, EIGHT[:many], chosen), True)

    def test_other_orders_and_repeated_names(self):
        for size in range(4):
            for value in itertools.product(("x", "y", "z"), repeat=size):
                rising = all(before < after for before, after in zip(value, value[1:]))
                self.assertIs(is_set(("x", "y", "z"), value), rising, value)

    def test_the_empty_set(self):
        self.assertIs(is_set((), ()), True)
        self.assertIs(is_set(("x",), ()), True)
        self.assertIs(is_set((), ("x",)), False)

    def test_names_that_are_not_there(self):
        for value in [("w",), ("w", "x"), ("x", "z"), ("xy",), ("x", "y", "z"), ("",), ("x\n",), ("X",), ("x", "q")]:
            self.assertIs(is_set(("x", "y"), value), False, value)

    def test_any_values(self):
        right = [(), ("x",), ("x", "y")]
        for value in ANY_VALUES:
            found = self.given(is_set, ("x", "y"), value)
            self.assertIs(found, type(value) is tuple and value in right, value)

    def test_sets_around_any_values(self):
        for value in ANY_VALUES:
            named = type(value) is str and value in ("x", "y")
            self.assertIs(is_set(("x", "y"), (value,)), named)
            self.assertIs(is_set(("x", "y"), ("x", value)), type(value) is str and value == "y")
            self.assertIs(is_set(("x", "y"), (value, "y")), type(value) is str and value == "x")
            self.assertIs(is_set(("x", "y"), [value]), False)
            self.assertIs(is_set(("x", "y"), {"x": value}), False)

    def test_by_name(self):
        self.assertIs(is_set(names=("x",), value=("x",)), True)
        self.assertIs(is_set(value="x", names=("x",)), False)
        self.assertEqual(list(inspect.signature(is_set).parameters), ["names", "value"])
        self.assertEqual(shapes.is_set.__module__, "anyfactors.shapes")


if __name__ == "__main__":
    unittest.main()
