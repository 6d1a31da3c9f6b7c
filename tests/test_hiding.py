"""Points 7 to 9 and 32 to 35: hidden solutions."""

import inspect
import itertools
import random
import unittest

from anyfactors import hiding as module
from anyfactors.errors import BadSet, Reached, UnknownName
from anyfactors.factors import fits, follows_with, hidden_with, row_sums
from anyfactors.hiding import check_hiding, hidden_sets, hiding
from anyfactors.shapes import Shape, all_sets
from anyfactors.steps import always, check_steps, reached, steps_to
from checks import PromiseCase
from samples import (
    EIGHT, LARGE, NOT_INTEGERS, NOT_UNKNOWNS, edge_shapes, factors_over, not_sets, shapes_over, some_cases,
    some_factors, some_shape, sums_by_hand, unread, wrong_factors,
)


def example():
    return Shape.read("x y z; x y; y z; z | x")


class Points9And32And33(PromiseCase):
    """For each unknown there are steps to it, or factors and values that hide it, and not both."""

    def test_example(self):
        shape = example()
        factors, values = hiding(shape, (), "y")
        self.same(
            [values, check_hiding(shape, (), "y", factors, values), hidden_sets(shape, ())],
            [{"x": 1, "y": 1, "z": 1}, True, [("x", "y", "z")]],
        )
        self.same(
            [hidden_sets(Shape.read("x y z; x y z"), ("z",)), hidden_sets(shape, ("z",))], [[("x", "y")], []],
        )

    def test_example_of_an_unknown_that_is_reached(self):
        self.refused(Reached, "name", "y", hiding, Shape.read("x y; x y"), ("x",), "y")

    def steps_are_right(self, shape, readings, name):
        steps = steps_to(shape, readings, name)
        self.assertIs(check_steps(shape, readings, steps), True)
        self.assertIs(name in readings if not steps else steps[-1][1] == name, True)
        for at in range(len(steps)):
            less = steps[:at] + steps[at + 1:]
            self.assertIs(check_steps(shape, readings, less) and less != [] and less[-1][1] == name, False)
        self.assertIs(self.refused(Reached, "name", name, hiding, shape, readings, name), name)

    def hiding_is_right(self, shape, readings, name):
        found = hiding(shape, readings, name)
        self.assertIs(type(found), tuple)
        factors, values = found
        self.assertIs(fits(shape, factors), True)
        self.assertEqual(sorted(values), list(shape.unknowns))
        self.assertEqual({type(value) for value in values.values()}, {int})
        self.assertLessEqual(set(values.values()), {0, 1})
        self.assertEqual(values[name], 1)
        self.assertEqual([values[item] for item in readings], [0] * len(readings))
        self.assertEqual(sums_by_hand(shape, factors, values), [0] * len(shape.rows))
        self.assertIs(check_hiding(shape, readings, name, factors, values), True)
        self.assertIs(follows_with(shape, factors, readings, name), False)

    def tell(self, shape, readings):
        found = reached(shape, readings)
        for name in shape.unknowns:
            self.assertIs(always(shape, readings, name), name in found)
            if name in found:
                self.steps_are_right(shape, readings, name)
            else:
                self.hiding_is_right(shape, readings, name)

    def test_all_shapes_of_few_unknowns_and_rows_with_all_readings(self):
        for names, most in [(("x",), 3), (("x", "y"), 3), (("x", "y", "z"), 2)]:
            for shape in shapes_over(names, most):
                for readings in all_sets(names):
                    self.tell(shape, readings)

    def test_larger_shapes(self):
        chance = random.Random(33)
        for shape in edge_shapes() + [some_shape(chance) for _ in range(250)]:
            for readings in [(), shape.unknowns, *chance.sample(all_sets(shape.unknowns), 2)]:
                self.tell(shape, readings)

    def test_each_kind_of_row(self):
        names = EIGHT
        for sure in range(9):
            for perhaps in range(9 - sure):
                shape = Shape(names, [(names[:sure], names[sure:sure + perhaps])])
                for readings in [(), names[:1], names[1:3], names[sure:], names[:sure - 1], names[-3:], names[2:7]]:
                    self.tell(shape, readings)

    def test_no_arguments_are_changed(self):
        for shape in edge_shapes():
            for name in shape.unknowns:
                if name not in reached(shape, ()):
                    self.given(hiding, shape, (), name)

    def test_errors(self):
        shape = Shape.read("x y; x y")
        for value in not_sets(shape.unknowns):
            self.assertIs(self.refused(BadSet, "value", value, hiding, shape, value, "z"), value)
        for name in NOT_UNKNOWNS:
            for readings in [(), ("x",), ("x", "y")]:
                self.assertIs(self.refused(UnknownName, "name", name, hiding, shape, readings, name), name)
        for readings, name in [(("x",), "x"), (("x",), "y"), (("x", "y"), "x"), (("y",), "x")]:
            self.assertIs(self.refused(Reached, "name", name, hiding, shape, readings, name), name)


class Points7And8(PromiseCase):
    def test_an_unknown_that_is_hidden_does_not_follow(self):
        for shape, factors, readings in some_cases(150, 8):
            for name in shape.unknowns:
                hidden = hidden_with(shape, factors, readings, name)
                self.assertIs(follows_with(shape, factors, readings, name), hidden is None)
                if hidden is not None:
                    self.assertIs(check_hiding(shape, readings, name, factors, hidden), True)
                    self.assertIs(always(shape, readings, name), False)

    def test_two_solutions_that_the_readings_do_not_part(self):
        for shape in edge_shapes():
            for name in shape.unknowns:
                if name in reached(shape, ()):
                    continue
                factors, values = hiding(shape, (), name)
                one = {other: 10 + at for at, other in enumerate(shape.unknowns)}
                two = {other: one[other] + values[other] for other in shape.unknowns}
                self.assertEqual(row_sums(shape, factors, one), row_sums(shape, factors, two))
                self.assertNotEqual(one[name], two[name])

    def test_always_sometimes_and_never(self):
        shape = Shape.read("w x y z; x y; x y; w y z")
        kinds = {}
        for name in shape.unknowns:
            told = {
                follows_with(shape, factors, ("w",), name) for factors in factors_over(shape, (-1, 1, 2))
            }
            kinds[name] = told
        self.assertEqual(kinds, {"w": {True}, "x": {True, False}, "y": {True, False}, "z": {True, False}})
        told = {follows_with(shape, factors, (), "z") for factors in factors_over(shape, (-1, 1, 2))}
        self.assertEqual(told, {False})
        self.assertIs(always(shape, ("w",), "w"), True)
        self.assertEqual([always(shape, ("w",), name) for name in "xyz"], [False] * 3)


class Point34(PromiseCase):
    SHAPE = Shape.read("x y z; x y; y z; z | x")
    FACTORS = {(0, "x"): 1, (0, "y"): -1, (1, "y"): 1, (1, "z"): -1, (2, "z"): 1, (2, "x"): -1}
    VALUES = {"x": 1, "y": 1, "z": 1}

    def accepted(self, shape, readings, name, factors, values):
        """Whether factors that fit and values that are integers are a hidden solution that shows the unknown."""
        return (
            sums_by_hand(shape, factors, values) == [0] * len(shape.rows)
            and all(values[item] == 0 for item in readings) and values[name] != 0
        )

    def test_what_is_accepted(self):
        for times in [1, -1, 3, LARGE]:
            values = {name: times for name in "xyz"}
            for name in "xyz":
                self.assertIs(self.given(check_hiding, self.SHAPE, (), name, self.FACTORS, values), True)
                for item in "xyz":
                    self.assertIs(check_hiding(self.SHAPE, (item,), name, self.FACTORS, values), False)

    def test_all_values_of_small_shapes(self):
        for shape in shapes_over(("x", "y"), 1):
            for factors in factors_over(shape, (-2, 0, 1)):
                for x, y in itertools.product((-1, 0, 1, 2), repeat=2):
                    values = {"x": x, "y": y}
                    for readings in all_sets(("x", "y")):
                        for name in "xy":
                            self.assertIs(
                                check_hiding(shape, readings, name, factors, values),
                                self.accepted(shape, readings, name, factors, values),
                            )

    def test_factors_that_do_not_fit(self):
        for wrong in wrong_factors(self.SHAPE, self.FACTORS):
            self.assertIs(self.given(check_hiding, self.SHAPE, (), "y", wrong, self.VALUES), False)

    def test_values_with_wrong_keys(self):
        shape, factors = self.SHAPE, self.FACTORS
        for name in NOT_UNKNOWNS:
            self.assertIs(self.given(check_hiding, shape, (), "y", factors, {**self.VALUES, name: 0}), False)
            self.assertIs(check_hiding(shape, (), "y", factors, {"x": 1, "y": 1, name: 1}), False)
            self.assertIs(check_hiding(shape, (), "y", factors, {"x": 1, "y": 1, "z": 1, name: None}), False)
        for chosen in all_sets(("x", "y", "z"))[:-1]:
            self.assertIs(check_hiding(shape, (), "y", factors, {name: 1 for name in chosen}), False)

    def test_values_that_are_no_integers(self):
        shape, factors = self.SHAPE, self.FACTORS
        for value in NOT_INTEGERS:
            for name in "xyz":
                wrong = {**self.VALUES, name: value}
                self.assertIs(self.given(check_hiding, shape, (), "y", factors, wrong), False)
            self.assertIs(check_hiding(shape, (), "y", factors, {name: value for name in "xyz"}), False)
        # True and False would add up like 1 and 0.
        self.assertIs(check_hiding(Shape.read("x y"), ("x",), "y", {}, {"x": False, "y": 1}), False)
        self.assertIs(check_hiding(Shape.read("x y"), ("x",), "y", {}, {"x": 0, "y": True}), False)
        self.assertIs(check_hiding(Shape.read("x y"), ("x",), "y", {}, {"x": 0, "y": 1}), True)

    def test_values_that_are_no_hidden_solution(self):
        shape, factors = self.SHAPE, self.FACTORS
        for name in "xyz":
            self.assertIs(check_hiding(shape, (), "y", factors, {**self.VALUES, name: 2}), False)
        zeros = {name: 0 for name in "xyz"}
        self.assertIs(check_hiding(shape, (), "y", factors, zeros), False)
        loose = Shape.read("x y; x")
        self.assertIs(check_hiding(loose, (), "y", {(0, "x"): 1}, {"x": 0, "y": -5}), True)
        self.assertIs(check_hiding(loose, (), "x", {(0, "x"): 1}, {"x": 0, "y": -5}), False)
        self.assertIs(check_hiding(loose, (), "y", {(0, "x"): 1}, {"x": 1, "y": -5}), False)
        self.assertIs(check_hiding(loose, ("x",), "y", {(0, "x"): 1}, {"x": 0, "y": -5}), True)
        self.assertIs(check_hiding(loose, ("y",), "y", {(0, "x"): 1}, {"x": 0, "y": -5}), False)

    def test_nothing_is_accepted_for_an_unknown_that_is_reached(self):
        shape = Shape.read("x y z; x | y; y; - | x z")
        numbers = (-1, 0, 1)
        for factors in factors_over(shape, numbers):
            for worth in itertools.product(numbers, repeat=3):
                values = dict(zip("xyz", worth))
                self.assertIs(check_hiding(shape, (), "x", factors, values), False)
                self.assertIs(check_hiding(shape, (), "y", factors, values), False)

    def test_the_order_of_the_keys_has_no_meaning(self):
        for keys in itertools.permutations("xyz"):
            values = {key: 1 for key in keys}
            factors = {key: self.FACTORS[key] for key in reversed(list(self.FACTORS))}
            self.assertIs(check_hiding(self.SHAPE, (), "x", factors, values), True)

    def test_errors(self):
        for value in not_sets(self.SHAPE.unknowns):
            held = self.refused(BadSet, "value", value, check_hiding, self.SHAPE, value, "w", {}, {})
            self.assertIs(held, value)
        for name in NOT_UNKNOWNS:
            held = self.refused(UnknownName, "name", name, check_hiding, self.SHAPE, ("x",), name, {}, {name: 1})
            self.assertIs(held, name)


class Point35(PromiseCase):
    NUMBERS = (-2, -1, 0, 1, 2)

    def row_can_be_0(self, row, values):
        """Whether some factors among these numbers add the row up to 0."""
        sure, perhaps = row
        ranges = [[one for one in self.NUMBERS if one != 0] for _ in sure] + [self.NUMBERS for _ in perhaps]
        worth = [values[name] for name in sure + perhaps]
        return any(
            sum(one * other for one, other in zip(chosen, worth)) == 0 for chosen in itertools.product(*ranges)
        )

    def can_hide(self, shape, wanted):
        """Whether some values, not 0 for just these unknowns, are a hidden solution with some factors."""
        for worth in itertools.product((1, 2), repeat=len(wanted)):
            values = {name: 0 for name in shape.unknowns}
            values.update(zip(wanted, worth))
            if all(self.row_can_be_0(row, values) for row in shape.rows):
                return True
        return False

    def test_small_shapes_against_a_search_for_factors(self):
        for names, most in [(("x",), 2), (("x", "y"), 2), (("x", "y", "z"), 1)]:
            for shape in shapes_over(names, most):
                hiders = [chosen for chosen in all_sets(names) if chosen and self.can_hide(shape, chosen)]
                for readings in all_sets(names):
                    wanted = [chosen for chosen in hiders if not set(chosen) & set(readings)]
                    self.same(self.given(hidden_sets, shape, readings), wanted)

    def plain(self, shape, readings):
        """All sets that are hidden sets by the second half of the point."""
        found = []
        for many in range(1, len(shape.unknowns) + 1):
            for chosen in itertools.combinations(shape.unknowns, many):
                alone = [
                    (sure, perhaps) for sure, perhaps in shape.rows
                    if len(set(sure) & set(chosen)) == 1 and not set(perhaps) & set(chosen)
                ]
                if not alone and not set(chosen) & set(readings):
                    found.append(chosen)
        return found

    def check(self, shape, readings):
        found = hidden_sets(shape, readings)
        self.same(found, self.plain(shape, readings))
        for before, after in zip(found, found[1:]):
            self.assertTrue(len(before) < len(after) or len(before) == len(after) and before < after)
        never_inside = [name for name in shape.unknowns if not any(name in chosen for chosen in found)]
        self.same(tuple(never_inside), reached(shape, readings))

    def test_shapes_against_a_plain_look_at_all_sets(self):
        for names, most in [(("x",), 3), (("x", "y"), 3), (("x", "y", "z"), 2)]:
            for shape in shapes_over(names, most):
                for readings in all_sets(names):
                    self.check(shape, readings)

    def test_larger_shapes(self):
        chance = random.Random(36)
        for shape in edge_shapes() + [some_shape(chance) for _ in range(40)]:
            for readings in [(), shape.unknowns, chance.choice(all_sets(shape.unknowns))]:
                self.check(shape, readings)

    def test_the_sets_of_hidden_solutions_are_among_them(self):
        chance = random.Random(37)
        for _ in range(60):
            shape = some_shape(chance)
            factors = some_factors(shape, chance)
            for readings in [(), chance.choice(all_sets(shape.unknowns))]:
                found = hidden_sets(shape, readings)
                for name in unread(shape, readings):
                    values = hidden_with(shape, factors, readings, name)
                    if values is not None:
                        self.assertIn(tuple(item for item in shape.unknowns if values[item] != 0), found)

    def test_edges(self):
        self.same(hidden_sets(Shape(EIGHT, []), ()), all_sets(EIGHT)[1:])
        self.same(hidden_sets(Shape(EIGHT, [((), EIGHT)] * 8), ()), all_sets(EIGHT)[1:])
        self.same(hidden_sets(Shape(EIGHT, [(EIGHT, ())] * 8), ()), all_sets(EIGHT)[9:])
        self.same(hidden_sets(Shape(EIGHT, []), EIGHT), [])
        self.same(hidden_sets(Shape(EIGHT, []), EIGHT[1:]), [(EIGHT[0],)])
        self.same(hidden_sets(Shape.read("x"), ()), [("x",)])
        self.same(hidden_sets(Shape.read("x; x"), ()), [])
        self.same(hidden_sets(Shape.read("x; - | x"), ()), [("x",)])
        self.same(hidden_sets(Shape.read("x y; x | y"), ()), [("y",), ("x", "y")])

    def test_errors(self):
        shape = example()
        for value in not_sets(shape.unknowns):
            self.assertIs(self.refused(BadSet, "value", value, hidden_sets, shape, value), value)


class Point10(PromiseCase):
    def test_results_are_new(self):
        shape = example()
        factors, values = hiding(shape, (), "y")
        held = (dict(factors), dict(values))
        factors.clear()
        values["y"] = 0
        self.same(hiding(shape, (), "y"), held)
        found = hidden_sets(shape, ())
        found.append(("x",))
        self.same(hidden_sets(shape, ()), [("x", "y", "z")])

    def test_by_name(self):
        shape = example()
        found = hiding(name="y", readings=(), shape=shape)
        self.same(found, hiding(shape, (), "y"))
        self.assertIs(
            check_hiding(values=found[1], factors=found[0], name="y", readings=(), shape=shape), True,
        )
        self.same(hidden_sets(readings=(), shape=shape), [("x", "y", "z")])

    def test_interface(self):
        wanted = {
            "hiding": ["shape", "readings", "name"], "hidden_sets": ["shape", "readings"],
            "check_hiding": ["shape", "readings", "name", "factors", "values"],
        }
        for name, arguments in wanted.items():
            call = getattr(module, name)
            self.assertEqual(list(inspect.signature(call).parameters), arguments)
            self.assertEqual(call.__module__, "anyfactors.hiding")


if __name__ == "__main__":
    unittest.main()
