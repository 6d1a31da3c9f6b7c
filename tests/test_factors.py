"""Points 6 and 21 to 26: factors for a shape."""

import inspect
import itertools
import random
import unittest

from anyfactors import factors as module
from anyfactors.errors import BadCount, BadFactors, BadNumber, BadSet, UnknownName
from anyfactors.factors import fits, follows_with, hidden_with, multipliers_with, rank_with, row_sums
from anyfactors.shapes import Shape, all_sets
from checks import HUGE, PromiseCase
from samples import (
    EIGHT, LARGE, NOT_INTEGERS, NOT_UNKNOWNS, edge_shapes, factors_over, matrix, not_sets, places, raises_rank, rank,
    shapes_over, some_cases, some_factors, sums_by_hand, unread, wrong_factors,
)


def example():
    shape = Shape.read("x y; x y; x | y")
    return shape, {(0, "x"): 1, (0, "y"): 2, (1, "x"): 3, (1, "y"): 0}


class Point21(PromiseCase):
    def test_example(self):
        shape, factors = example()
        self.same(
            [fits(shape, factors), fits(shape, {**factors, (1, "x"): 0}), row_sums(shape, factors, {"x": 2, "y": -1})],
            [True, False, [0, 6]],
        )

    def test_no_rows_and_empty_rows(self):
        for text in ["x", "x; -", "x y z; -; -; -", "a b c d e f g h; -; -; -; -; -; -; -; -"]:
            shape = Shape.read(text)
            self.assertIs(self.given(fits, shape, {}), True)
            for number in (-1, 0, 1, 8):
                self.assertIs(fits(shape, {(number, shape.unknowns[0]): 1}), False)

    def test_numbers_at_each_place(self):
        for shape in shapes_over(("x", "y"), 2):
            for worth in itertools.product((-HUGE, -1, 0, 2), repeat=len(places(shape))):
                factors = dict(zip(places(shape), worth))
                zeros = [place for place in factors if factors[place] == 0]
                wanted = not any(name in shape.rows[number][0] for number, name in zeros)
                self.assertIs(self.given(fits, shape, factors), wanted)

    def test_a_key_less_a_key_more_and_wrong_values(self):
        for shape in [*edge_shapes(), *shapes_over(("x", "y"), 2)]:
            factors = some_factors(shape, random.Random(1))
            self.assertIs(fits(shape, factors), True)
            for wrong in wrong_factors(shape, factors):
                self.assertIs(self.given(fits, shape, wrong), False)

    def test_a_key_exchanged_for_another_one(self):
        shape, factors = example()
        for place in [(0, "z"), (2, "x"), (-1, "x"), (-2, "x"), (0, ""), (HUGE, "x"), (0, "X")]:
            for gone in factors:
                wrong = {key: factors[key] for key in factors if key != gone}
                self.assertIs(fits(shape, {**wrong, place: 1}), False)

    def test_true_and_false(self):
        shape = Shape.read("x y; x | y; x | y")
        right = {(0, "x"): 1, (0, "y"): 0, (1, "x"): 1, (1, "y"): 1}
        self.assertIs(fits(shape, right), True)
        for place in right:
            for value in (True, False):
                self.assertIs(fits(shape, {**right, place: value}), False)
        self.assertIs(fits(shape, {(0, "x"): 1, (0, "y"): 0, (True, "x"): 1, (1, "y"): 1}), False)
        self.assertIs(fits(shape, {(False, "x"): 1, (0, "y"): 0, (1, "x"): 1, (1, "y"): 1}), False)

    def test_the_order_of_the_keys_has_no_meaning(self):
        shape, factors = example()
        for keys in itertools.permutations(factors):
            self.assertIs(fits(shape, {key: factors[key] for key in keys}), True)

    def test_by_name(self):
        shape, factors = example()
        self.assertIs(fits(factors=factors, shape=shape), True)


class Point22(PromiseCase):
    def test_sums(self):
        shape = Shape.read("x y z; x y z; z | x; -; - | y")
        factors = {(0, "x"): 2, (0, "y"): -3, (0, "z"): 5, (1, "z"): HUGE, (1, "x"): 0, (3, "y"): 7}
        self.same(self.given(row_sums, shape, factors, {"z": 11, "x": 1, "y": -2}), [63, 11 * HUGE, 0, -14])
        self.same(row_sums(shape, factors, {"x": 0, "y": 0, "z": 0}), [0, 0, 0, 0])
        self.same(row_sums(Shape.read("x"), {}, {"x": 1}), [])
        self.same(row_sums(Shape.read("x; -; -"), {}, {"x": 1}), [0, 0])

    def test_against_sums_by_hand(self):
        chance = random.Random(22)
        for shape, factors, _ in some_cases(300, 22):
            values = {name: chance.randint(-LARGE, LARGE) for name in shape.unknowns}
            self.same(self.given(row_sums, shape, factors, values), sums_by_hand(shape, factors, values))

    def test_factors_that_do_not_fit(self):
        for shape in edge_shapes():
            factors = some_factors(shape, random.Random(2))
            values = {name: 1 for name in shape.unknowns}
            for wrong in wrong_factors(shape, factors):
                self.assertIs(self.refused(BadFactors, "value", wrong, row_sums, shape, wrong, values), wrong)

    def test_keys_that_are_no_unknowns(self):
        shape, factors = example()
        for name in NOT_UNKNOWNS:
            self.refused(UnknownName, "name", name, row_sums, shape, factors, {"x": 1, name: 1, "y": 1})
            self.refused(UnknownName, "name", name, row_sums, shape, factors, {name: None})
        self.refused(UnknownName, "name", "w", row_sums, shape, factors, {"z": 1, "x": 1, "w": 1, "y": 1})
        self.refused(UnknownName, "name", "w", row_sums, shape, factors, {"w": 1, "z": 1})

    def test_unknowns_without_values(self):
        shape, factors = example()
        self.refused(BadCount, "count", 0, row_sums, shape, factors, {})
        self.refused(BadCount, "count", 1, row_sums, shape, factors, {"x": 1})
        self.refused(BadCount, "count", 1, row_sums, shape, factors, {"y": None})
        long = Shape(EIGHT, [])
        for chosen in all_sets(EIGHT)[:-1]:
            self.refused(BadCount, "count", len(chosen), row_sums, long, {}, {name: 1 for name in chosen})

    def test_values_that_are_no_integers(self):
        shape, factors = example()
        for value in NOT_INTEGERS:
            held = self.refused(BadNumber, "value", value, row_sums, shape, factors, {"x": value, "y": 1})
            self.assertIs(held, value)
            held = self.refused(BadNumber, "value", value, row_sums, shape, factors, {"y": value, "x": 1})
            self.assertIs(held, value)
            self.refused(BadNumber, "value", value, row_sums, shape, factors, {"y": [], "x": value})
        # Also an unknown that occurs in no row has a value.
        self.refused(BadNumber, "value", True, row_sums, Shape.read("x"), {}, {"x": True})

    def test_the_order_of_the_errors(self):
        shape, factors = example()
        self.refused(BadFactors, "value", {}, row_sums, shape, {}, {"z": None})
        self.refused(UnknownName, "name", "z", row_sums, shape, factors, {"z": None})
        self.refused(UnknownName, "name", "z", row_sums, shape, factors, {"x": None, "y": 1, "z": 1})
        self.refused(BadCount, "count", 1, row_sums, shape, factors, {"x": None})

    def test_results_are_new_and_by_name(self):
        shape, factors = example()
        found = row_sums(values={"y": -1, "x": 2}, factors=factors, shape=shape)
        self.same(found, [0, 6])
        found.append(1)
        found[0] = 9
        self.same(row_sums(shape, factors, {"x": 2, "y": -1}), [0, 6])


class Told(PromiseCase):
    """What the functions of points 23 to 26 must tell of one shape, factors and readings."""

    def added_up(self, shape, factors, readings, name, many):
        """Check a list of multipliers by adding up the rows."""
        self.assertIs(type(many), list)
        self.assertEqual([type(item) for item in many], [int] * len(shape.rows))
        total = {
            other: sum(many[at] * factors.get((at, other), 0) for at in range(len(many))) for other in shape.unknowns
        }
        for other in unread(shape, readings):
            self.assertIs(total[other] != 0, other == name)
        # So the value of the unknown can be told from the right sides and the readings (point 6).
        values = {other: 3 + 5 * at for at, other in enumerate(shape.unknowns)}
        sides = sums_by_hand(shape, factors, values)
        rest = sum(one * side for one, side in zip(many, sides)) - sum(total[item] * values[item] for item in readings)
        self.assertEqual(rest, total[name] * values[name])

    def hides(self, shape, factors, readings, name, values):
        """Check a hidden solution by adding up the rows."""
        self.assertEqual(sorted(values), list(shape.unknowns))
        self.assertEqual({type(value) for value in values.values()}, {int})
        self.assertEqual(sums_by_hand(shape, factors, values), [0] * len(shape.rows))
        self.assertEqual([values[item] for item in readings], [0] * len(readings))
        self.assertNotEqual(values[name], 0)

    def tell(self, shape, factors, readings):
        before = (str(shape), dict(factors), tuple(readings))
        many = rank_with(shape, factors, readings)
        self.same(many, rank(matrix(shape, factors, unread(shape, readings))))
        following = []
        for name in shape.unknowns:
            hidden = hidden_with(shape, factors, readings, name)
            multipliers = multipliers_with(shape, factors, readings, name)
            follows = follows_with(shape, factors, readings, name)
            self.assertIs(follows, name in readings or raises_rank(shape, factors, readings, name))
            self.assertIs(hidden is None, follows)
            self.assertIs(multipliers is not None, follows)
            if name in readings:
                self.same(multipliers, [0] * len(shape.rows))
            elif follows:
                self.added_up(shape, factors, readings, name, multipliers)
            else:
                self.hides(shape, factors, readings, name, hidden)
            following.append(follows)
        self.assertIs(all(following), many == len(unread(shape, readings)))
        self.same((str(shape), factors, readings), before)


class Points23To26(Told):
    def test_example(self):
        shape, factors = example()
        self.same(
            [
                follows_with(shape, factors, (), "y"), hidden_with(shape, factors, (), "y"),
                rank_with(shape, factors, ()),
            ],
            [True, None, 2],
        )
        alike = {(0, "x"): 1, (0, "y"): 1, (1, "x"): 2, (1, "y"): 2}
        self.same(
            [
                follows_with(shape, alike, (), "y"), multipliers_with(shape, alike, (), "y"),
                rank_with(shape, alike, ("x",)),
            ],
            [False, None, 1],
        )

    def test_all_small_shapes_with_small_factors(self):
        for shape in shapes_over(("x", "y"), 2):
            for factors in factors_over(shape, (-1, 0, 2)):
                for readings in all_sets(shape.unknowns):
                    self.tell(shape, factors, readings)

    def test_shapes_of_three_unknowns(self):
        chance = random.Random(3)
        for shape in shapes_over(("x", "y", "z"), 2):
            self.tell(shape, some_factors(shape, chance, 2), chance.choice(all_sets(shape.unknowns)))

    def test_shapes_at_the_edges(self):
        chance = random.Random(5)
        for shape in edge_shapes():
            for size in (1, 1, 2, LARGE):
                factors = some_factors(shape, chance, size)
                for readings in [(), shape.unknowns, *chance.sample(all_sets(shape.unknowns), 2)]:
                    self.tell(shape, factors, readings)

    def test_shapes_of_all_sizes_and_large_factors(self):
        for shape, factors, readings in some_cases(400, 7):
            self.tell(shape, factors, readings)

    def test_rows_that_are_multiples_of_one_another(self):
        names = EIGHT
        shape = Shape(names, [(names, ())] * 8)
        for many in range(1, 9):
            base = [[LARGE - 31 * at ** 3 - 7 ** (at * more) for at in range(8)] for more in range(many)]
            factors = {
                (number, name): base[number % many][at] * (-1) ** number * (number // many + 1)
                for number in range(8) for at, name in enumerate(names)
            }
            self.assertIs(fits(shape, factors), True)
            self.assertEqual(rank_with(shape, factors, ()), rank(base))
            for readings in [(), names[:4], names[:8 - many], names[1:8 - many], names[2:]]:
                self.tell(shape, factors, readings)

    def test_a_difference_in_the_last_digit(self):
        shape = Shape.read("x y; x y; x y")
        for top in (LARGE, HUGE, -HUGE):
            alike = {(0, "x"): top, (0, "y"): top + 1, (1, "x"): 2 * top, (1, "y"): 2 * top + 2}
            self.assertIs(follows_with(shape, alike, (), "x"), False)
            self.assertEqual(rank_with(shape, alike, ()), 1)
            self.tell(shape, alike, ())
            other = {**alike, (1, "y"): 2 * top + 1}
            self.assertIs(follows_with(shape, other, (), "x"), True)
            self.assertEqual(rank_with(shape, other, ()), 2)
            self.tell(shape, other, ())

    def test_no_readings_all_readings_no_rows(self):
        for shape in edge_shapes():
            factors = some_factors(shape, random.Random(8))
            for name in shape.unknowns:
                self.same(hidden_with(shape, factors, shape.unknowns, name), None)
                self.same(multipliers_with(shape, factors, shape.unknowns, name), [0] * len(shape.rows))
                self.assertIs(follows_with(shape, factors, shape.unknowns, name), True)
            self.same(rank_with(shape, factors, shape.unknowns), 0)
        bare = Shape.read("x y")
        self.same(multipliers_with(bare, {}, ("x",), "x"), [])
        self.same(multipliers_with(bare, {}, ("x",), "y"), None)
        self.assertEqual(hidden_with(bare, {}, ("x",), "y")["x"], 0)
        self.assertNotEqual(hidden_with(bare, {}, ("x",), "y")["y"], 0)
        self.same(rank_with(bare, {}, ()), 0)

    def test_a_perhaps_unknown_with_and_without_a_factor(self):
        shape = Shape.read("x y; x | y")
        self.assertIs(follows_with(shape, {(0, "x"): 4, (0, "y"): 0}, (), "x"), True)
        self.assertIs(follows_with(shape, {(0, "x"): 4, (0, "y"): 1}, (), "x"), False)
        self.assertIs(follows_with(shape, {(0, "x"): 4, (0, "y"): 0}, ("x",), "y"), False)
        self.assertIs(follows_with(shape, {(0, "x"): 4, (0, "y"): 1}, ("x",), "y"), True)

    def test_more_readings_never_take_anything_away(self):
        for shape, factors, readings in some_cases(60, 9):
            for more in shape.unknowns:
                wider = tuple(sorted({*readings, more}))
                for name in shape.unknowns:
                    if follows_with(shape, factors, readings, name):
                        self.assertIs(follows_with(shape, factors, wider, name), True)


class Errors(PromiseCase):
    def test_factors_that_do_not_fit(self):
        for shape in edge_shapes():
            factors = some_factors(shape, random.Random(4))
            for wrong in wrong_factors(shape, factors):
                for call in (hidden_with, multipliers_with, follows_with):
                    held = self.refused(BadFactors, "value", wrong, call, shape, wrong, (), shape.unknowns[0])
                    self.assertIs(held, wrong)
                self.assertIs(self.refused(BadFactors, "value", wrong, rank_with, shape, wrong, ()), wrong)

    def test_readings_of_any_value(self):
        shape, factors = example()
        for value in not_sets(shape.unknowns):
            for call in (hidden_with, multipliers_with, follows_with):
                self.assertIs(self.refused(BadSet, "value", value, call, shape, factors, value, "x"), value)
            self.assertIs(self.refused(BadSet, "value", value, rank_with, shape, factors, value), value)

    def test_names_that_are_no_unknowns(self):
        shape, factors = example()
        for name in NOT_UNKNOWNS:
            for call in (hidden_with, multipliers_with, follows_with):
                self.assertIs(self.refused(UnknownName, "name", name, call, shape, factors, ("x",), name), name)

    def test_the_order_of_the_errors(self):
        shape, factors = example()
        for call in (hidden_with, multipliers_with, follows_with):
            self.refused(BadFactors, "value", {}, call, shape, {}, ["x"], "z")
            self.refused(BadSet, "value", ["x"], call, shape, factors, ["x"], "z")
            self.refused(UnknownName, "name", "z", call, shape, factors, ("x", "y"), "z")
        self.refused(BadFactors, "value", {}, rank_with, shape, {}, ["x"])


class Point10(PromiseCase):
    def test_results_are_new(self):
        shape, factors = example()
        alike = {(0, "x"): 1, (0, "y"): 1, (1, "x"): 2, (1, "y"): 2}
        hidden = hidden_with(shape, alike, (), "y")
        kept = dict(hidden)
        hidden["y"] = 0
        hidden["z"] = 5
        self.same(hidden_with(shape, alike, (), "y"), kept)
        for readings in [(), ("x",)]:
            many = multipliers_with(shape, factors, readings, "x")
            held = list(many)
            many[0] = 77
            many.append(0)
            self.same(multipliers_with(shape, factors, readings, "x"), held)

    def test_the_order_of_the_keys_has_no_meaning(self):
        for shape, factors, readings in some_cases(100, 10):
            turned = {key: factors[key] for key in reversed(list(factors))}
            for name in shape.unknowns:
                for call in (hidden_with, multipliers_with, follows_with):
                    self.same(call(shape, turned, readings, name), call(shape, factors, readings, name))
            self.same(rank_with(shape, turned, readings), rank_with(shape, factors, readings))

    def test_by_name(self):
        shape, factors = example()
        for call in (hidden_with, multipliers_with, follows_with):
            self.same(
                call(name="y", readings=("x",), factors=factors, shape=shape), call(shape, factors, ("x",), "y"),
            )
        self.same(rank_with(readings=(), factors=factors, shape=shape), 2)

    def test_interface(self):
        question = ["shape", "factors", "readings", "name"]
        wanted = {
            "fits": question[:2], "row_sums": ["shape", "factors", "values"], "hidden_with": question,
            "multipliers_with": question, "follows_with": question, "rank_with": question[:3],
        }
        for name, arguments in wanted.items():
            call = getattr(module, name)
            self.assertEqual(list(inspect.signature(call).parameters), arguments)
            self.assertEqual(call.__module__, "anyfactors.factors")


if __name__ == "__main__":
    unittest.main()
