"""Points 9 and 51 to 55: sums of unknowns with weights."""

import inspect
import itertools
import random
import unittest

from anyfactors import sums as module
from anyfactors.errors import BadSet, BadSum, SumFollows, SumNever, UnknownName
from anyfactors.factors import fits
from anyfactors.kinds import kind_of
from anyfactors.shapes import Shape, all_sets
from anyfactors.sums import check_sum_hiding, check_sum_mixing, sum_hiding, sum_kind, sum_mixing
from checks import ANY_VALUES, HUGE, PromiseCase
from plain import ORDER, column_sum, left_by, plain_reached, rows_with
from samples import (
    EIGHT, LARGE, NOT_INTEGERS, NOT_UNKNOWNS, edge_shapes, factors_over, matrix, not_sets, rank, shapes_over,
    some_factors, some_shape, sums_by_hand, unread, wrong_factors,
)

WEIGHTS = (-3, -2, -1, 1, 2, LARGE, -LARGE)


def example():
    return Shape.read("w x y z; x y; w y z")


def some_weights(chance, names, numbers=WEIGHTS):
    chosen = chance.sample(list(names), chance.randint(1, len(names)))
    return {name: chance.choice(numbers) for name in chosen}


def cases(many, seed):
    """Shapes, readings and weights: all small ones with small weights, those at the edges, and drawn ones."""
    for names, most in [(("x",), 2), (("x", "y"), 2)]:
        for shape in shapes_over(names, most):
            for readings in all_sets(names):
                for chosen in all_sets(names)[1:]:
                    for worth in itertools.product((-1, 1, 2), repeat=len(chosen)):
                        yield shape, readings, dict(zip(chosen, worth))
    chance = random.Random(seed)
    for shape in edge_shapes() + [some_shape(chance) for _ in range(many)]:
        for readings in [(), shape.unknowns, *chance.sample(all_sets(shape.unknowns), 2)]:
            yield shape, readings, some_weights(chance, shape.unknowns)
            yield shape, readings, some_weights(chance, shape.unknowns, (1, -1))
            yield shape, readings, {name: chance.choice(WEIGHTS) for name in shape.unknowns}


def follows(shape, factors, readings, weights):
    """Whether the sum is 0 in every hidden solution: whether its weights are a sum of multiples of the rows."""
    names = unread(shape, readings)
    rows = matrix(shape, factors, names)
    return rank([*rows, [weights.get(name, 0) for name in names]]) == rank(rows)


def plain_sum_kind(shape, readings, weights):
    """The kind, word by word as point 52 has it."""
    if set(weights) <= set(plain_reached(shape, readings)):
        return "always"
    left = left_by(shape, [name for name in unread(shape, readings) if name not in weights])
    asked = [name for name in unread(shape, readings) if name in weights]
    return "never" if any(not set(left) & set(rows_with(shape, name)) for name in asked) else "sometimes"


def hides(shape, readings, weights, factors, values):
    """Whether factors that fit and integers as values are a hidden solution in which the sum is not 0."""
    return (
        sums_by_hand(shape, factors, values) == [0] * len(shape.rows)
        and all(values[name] == 0 for name in readings)
        and sum(weight * values[name] for name, weight in weights.items()) != 0
    )


def mixes(shape, readings, weights, factors, multipliers, times):
    """Whether the rows add up as in point 54."""
    return all(
        column_sum(shape, factors, multipliers, name) == weights.get(name, 0) * times
        for name in unread(shape, readings)
    )


class Example(PromiseCase):
    def test_example(self):
        shape = example()
        self.same(
            [sum_kind(shape, (), {"x": 1}), sum_kind(shape, (), {"x": 1, "y": -2}),
             sum_kind(shape, ("x",), {"y": 3, "x": 1})],
            ["never", "sometimes", "always"],
        )
        factors, multipliers, times = sum_mixing(shape, (), {"x": 1, "y": -2})
        self.same(
            [multipliers, check_sum_mixing(shape, (), {"x": 1, "y": -2}, factors, multipliers, times)],
            [[1, 0], True],
        )
        factors, values = sum_hiding(shape, (), {"x": 1, "y": -1})
        self.assertIs(check_sum_hiding(shape, (), {"x": 1, "y": -1}, factors, values), True)
        self.refused(SumNever, "value", {"x": 5}, sum_mixing, Shape.read("x y; x y"), (), {"x": 5})


class Point51(PromiseCase):
    CALLS = [
        (sum_kind, ()), (sum_hiding, ()), (sum_mixing, ()), (check_sum_hiding, ({}, {})),
        (check_sum_mixing, ({}, [], 1)),
    ]

    def test_readings_that_are_no_set(self):
        shape = example()
        for call, more in self.CALLS:
            for value in not_sets(shape.unknowns):
                for weights in [{"x": 1}, {"q": 1}, {}]:
                    self.assertIs(self.refused(BadSet, "value", value, call, shape, value, weights, *more), value)

    def test_the_first_key_that_is_no_unknown(self):
        shape = example()
        for call, more in self.CALLS:
            for name in NOT_UNKNOWNS:
                for weights in [{name: 1}, {"x": 1, name: 2}, {"x": 0, name: None}, {name: 1, "y": True}]:
                    self.refused(UnknownName, "name", name, call, shape, ("x",), weights, *more)
            for weights in [{"z9": 1, "b": 1, "x": 1}, {"b": 0, "z9": 0}, {"x": 0, "z9": 1, "b": None}]:
                self.refused(UnknownName, "name", "b", call, shape, (), weights, *more)

    def test_weights_that_are_no_sum(self):
        shape = example()
        wrong = [{}, {"x": 0}, {"x": 1, "y": 0}, {"y": 0, "x": 1}]
        for value in NOT_INTEGERS:
            wrong += [{"x": value}, {"x": 1, "y": value}, {"z": value, "y": 2}]
        for call, more in self.CALLS:
            for weights in wrong:
                for readings in [(), ("x",), ("w", "x", "y", "z")]:
                    held = self.refused(BadSum, "value", weights, call, shape, readings, weights, *more)
                    self.assertIs(held, weights)

    def test_weights_of_any_size(self):
        shape = example()
        for weight in [1, -1, LARGE, -LARGE, HUGE, -HUGE]:
            self.same(sum_kind(shape, (), {"x": weight, "y": -weight}), "sometimes")
            factors, values = self.given(sum_hiding, shape, (), {"x": weight, "y": -weight})
            self.assertTrue(hides(shape, (), {"x": weight, "y": -weight}, factors, values))
            factors, multipliers, times = self.given(sum_mixing, shape, (), {"x": weight, "y": 7})
            self.assertTrue(mixes(shape, (), {"x": weight, "y": 7}, factors, multipliers, times))


class Points9And52(PromiseCase):
    def test_word_by_word(self):
        for shape, readings, weights in cases(120, 52):
            self.same(self.given(sum_kind, shape, readings, weights), plain_sum_kind(shape, readings, weights))

    def test_the_kinds_against_all_small_factors(self):
        words = {(True,): "always", (False, True): "sometimes", (False,): "never"}
        for shape in shapes_over(("x", "y"), 2):
            drawn = list(factors_over(shape, (-2, -1, 0, 1)))
            for readings, weights in [
                ((), {"x": 1}), ((), {"x": 1, "y": 1}), ((), {"x": -1, "y": 2}), ((), {"y": -2, "x": -2}),
                (("x",), {"y": 2, "x": 1}), (("y",), {"y": -1}), (("x", "y"), {"x": 1, "y": -1}),
            ]:
                told = {follows(shape, factors, readings, weights) for factors in drawn}
                self.same(sum_kind(shape, readings, weights), words[tuple(sorted(told))])

    def test_no_drawn_factors_contradict_a_kind(self):
        chance = random.Random(53)
        for shape, readings, weights in cases(60, 53):
            found = sum_kind(shape, readings, weights)
            told = follows(shape, some_factors(shape, chance), readings, weights)
            self.assertIn(found, ("always", "sometimes") if told else ("sometimes", "never"))

    def test_a_sum_of_one_unknown_has_the_kind_of_that_unknown(self):
        for shape, readings, _ in cases(60, 54):
            for name in shape.unknowns:
                for weight in (1, -5, LARGE):
                    self.same(sum_kind(shape, readings, {name: weight}), kind_of(shape, readings, name))

    def test_always_exactly_if_all_its_unknowns_do(self):
        for shape, readings, weights in cases(60, 55):
            wanted = all(kind_of(shape, readings, name) == "always" for name in weights)
            self.assertIs(sum_kind(shape, readings, weights) == "always", wanted)

    def test_a_sum_may_follow_although_none_of_its_unknowns_does(self):
        one = Shape.read("x y; x y")
        self.same([kind_of(one, (), name) for name in "xy"], ["never", "never"])
        self.same(sum_kind(one, (), {"x": 1, "y": 1}), "sometimes")
        both = Shape.read("u x y; u | x y")
        self.same([kind_of(both, (), name) for name in "uxy"], ["sometimes", "never", "never"])
        self.same(sum_kind(both, (), {"u": 1, "x": 1}), "sometimes")
        self.same(sum_kind(both, (), {"x": 1, "y": 1}), "never")

    def test_edges(self):
        self.same(sum_kind(Shape.read("x"), (), {"x": 1}), "never")
        self.same(sum_kind(Shape.read("x"), ("x",), {"x": 1}), "always")
        self.same(sum_kind(Shape(EIGHT, []), EIGHT, {name: -1 for name in EIGHT}), "always")
        self.same(sum_kind(Shape(EIGHT, []), EIGHT[1:], {name: -1 for name in EIGHT}), "never")
        self.same(sum_kind(Shape(EIGHT, [(EIGHT, ())]), (), {name: LARGE for name in EIGHT}), "sometimes")
        self.same(sum_kind(Shape(EIGHT, [(EIGHT, ())]), (), {name: 1 for name in EIGHT[1:]}), "never")
        self.same(sum_kind(Shape(EIGHT, [((), EIGHT)]), (), {name: 1 for name in EIGHT[1:]}), "sometimes")
        self.same(sum_kind(example(), ("w", "x"), {"w": 1, "x": 2}), "always")
        self.same(sum_kind(example(), ("w",), {"w": 1, "x": 2}), "never")


class Points9And53(PromiseCase):
    def test_what_is_told(self):
        other_values = 0
        for shape, readings, weights in cases(150, 56):
            if sum_kind(shape, readings, weights) == "always":
                held = self.refused(SumFollows, "value", weights, sum_hiding, shape, readings, weights)
                self.assertIs(held, weights)
                continue
            found = self.given(sum_hiding, shape, readings, weights)
            self.assertIs(type(found), tuple)
            factors, values = found
            self.assertIs(type(factors), dict)
            self.assertIs(fits(shape, factors), True)
            self.same(sorted(values), list(shape.unknowns))
            self.assertTrue(all(type(value) is int for value in values.values()))
            self.assertTrue(hides(shape, readings, weights, factors, values))
            self.assertIs(check_sum_hiding(shape, readings, weights, factors, values), True)
            self.assertIs(follows(shape, factors, readings, weights), False)
            other_values += not set(values.values()) <= {0, 1}
        self.assertGreater(other_values, 20)

    def test_a_sum_that_needs_other_values_than_0_and_1(self):
        for text, weights in [
            ("x y; x y", {"x": 1, "y": -1}), ("x y; x y; x y", {"x": -LARGE, "y": LARGE}),
            ("x y; x | y; y | x; x y", {"x": 3, "y": -3}), ("x y z; x y; y z; x z", {"x": 1, "y": 1, "z": -2}),
        ]:
            shape = Shape.read(text)
            factors, values = sum_hiding(shape, (), weights)
            self.assertTrue(hides(shape, (), weights, factors, values))
            # With zeros and ones, 1 is the value of all unknowns or of none, and then the sum is 0.
            self.assertFalse(set(values.values()) <= {0, 1})

    def test_each_kind_of_row(self):
        for sure in range(9):
            for perhaps in range(9 - sure):
                shape = Shape(EIGHT, [(EIGHT[:sure], EIGHT[sure:sure + perhaps])])
                for weights in [{EIGHT[0]: 1, EIGHT[7]: -1}, {EIGHT[7]: 1, EIGHT[1]: -1, EIGHT[0]: 2},
                                {name: (-1) ** at for at, name in enumerate(EIGHT)}]:
                    for readings in [(), EIGHT[2:4], EIGHT[:1]]:
                        if sum_kind(shape, readings, weights) != "always":
                            factors, values = sum_hiding(shape, readings, weights)
                            self.assertTrue(hides(shape, readings, weights, factors, values))
                            self.assertIs(fits(shape, factors), True)

    def test_sums_of_readings_alone_are_refused(self):
        for shape in edge_shapes():
            for name in shape.unknowns:
                self.refused(SumFollows, "value", {name: -2}, sum_hiding, shape, (name,), {name: -2})
            weights = {name: 1 for name in shape.unknowns}
            self.refused(SumFollows, "value", weights, sum_hiding, shape, shape.unknowns, weights)


class CheckSumHiding(PromiseCase):
    SHAPE = Shape.read("x y z; x y; y z; z | x")
    FACTORS = {(0, "x"): 1, (0, "y"): -1, (1, "y"): 1, (1, "z"): -1, (2, "z"): 1, (2, "x"): -1}
    VALUES = {"x": 2, "y": 2, "z": 2}

    def test_what_is_accepted(self):
        call = check_sum_hiding
        for times in (1, -1, 3, LARGE, HUGE):
            values = {name: times for name in "xyz"}
            self.assertIs(self.given(call, self.SHAPE, (), {"x": 1, "y": 1}, self.FACTORS, values), True)
            self.assertIs(self.given(call, self.SHAPE, (), {"x": 1, "y": -1}, self.FACTORS, values), False)
            self.assertIs(call(self.SHAPE, (), {"x": 1, "y": 1, "z": -2}, self.FACTORS, values), False)
            self.assertIs(call(self.SHAPE, (), {"x": 1, "y": 1, "z": LARGE}, self.FACTORS, values), True)
            self.assertIs(call(self.SHAPE, ("x",), {"z": 1}, self.FACTORS, values), False)
        self.assertIs(call(self.SHAPE, (), {"x": 1}, self.FACTORS, {name: 0 for name in "xyz"}), False)
        self.assertIs(call(self.SHAPE, (), {"x": 1}, self.FACTORS, {"x": 1, "y": 1, "z": 2}), False)

    def test_all_values_of_small_shapes(self):
        for shape in shapes_over(("x", "y"), 1):
            for factors in factors_over(shape, (-2, 0, 1)):
                for x, y in itertools.product((-1, 0, 1, 2), repeat=2):
                    for readings, weights in [((), {"x": 1, "y": -1}), ((), {"y": 2}), (("x",), {"x": 1, "y": 1})]:
                        values = {"x": x, "y": y}
                        self.assertIs(
                            check_sum_hiding(shape, readings, weights, factors, values),
                            hides(shape, readings, weights, factors, values),
                        )

    def test_wrong_factors_and_values(self):
        call, weights = check_sum_hiding, {"y": 1, "x": 2}
        for wrong in wrong_factors(self.SHAPE, self.FACTORS):
            self.assertIs(self.given(call, self.SHAPE, (), weights, wrong, self.VALUES), False)
        for name in NOT_UNKNOWNS:
            self.assertIs(self.given(call, self.SHAPE, (), weights, self.FACTORS, {**self.VALUES, name: 0}), False)
            self.assertIs(call(self.SHAPE, (), weights, self.FACTORS, {"x": 2, "y": 2, name: 2}), False)
        for name in "xyz":
            less = {key: 2 for key in "xyz" if key != name}
            self.assertIs(call(self.SHAPE, (), weights, self.FACTORS, less), False)
            for value in NOT_INTEGERS:
                wrong = {**self.VALUES, name: value}
                self.assertIs(self.given(call, self.SHAPE, (), weights, self.FACTORS, wrong), False)
        self.assertIs(call(self.SHAPE, (), weights, self.FACTORS, {}), False)
        self.assertIs(call(self.SHAPE, (), weights, self.FACTORS, {name: True for name in "xyz"}), False)

    def test_the_order_of_the_keys_has_no_meaning(self):
        for keys in itertools.permutations("xyz"):
            values = {key: 2 for key in keys}
            weights = {key: self.VALUES[key] for key in keys}
            self.assertIs(check_sum_hiding(self.SHAPE, (), weights, self.FACTORS, values), True)


class Points9And54(PromiseCase):
    def test_what_is_told(self):
        for shape, readings, weights in cases(150, 57):
            if sum_kind(shape, readings, weights) == "never":
                held = self.refused(SumNever, "value", weights, sum_mixing, shape, readings, weights)
                self.assertIs(held, weights)
                continue
            found = self.given(sum_mixing, shape, readings, weights)
            self.assertIs(type(found), tuple)
            factors, multipliers, times = found
            self.assertIs(fits(shape, factors), True)
            self.assertIs(type(multipliers), list)
            self.assertEqual(len(multipliers), len(shape.rows))
            self.assertTrue(all(type(item) is int and item in (0, 1) for item in multipliers))
            self.assertTrue(type(times) is int and times >= 1)
            self.assertTrue(mixes(shape, readings, weights, factors, multipliers, times))
            self.assertIs(check_sum_mixing(shape, readings, weights, factors, multipliers, times), True)
            self.assertIs(follows(shape, factors, readings, weights), True)

    def test_each_kind_of_column(self):
        for sure in range(9):
            for perhaps in range(9 - sure):
                rows = [(("x",), ("w",))] * sure + [(("w",), ("x",))] * perhaps + [(("w",), ())] * (8 - sure - perhaps)
                shape = Shape(["w", "x", "y"], rows)
                for worth in (-8, -7, -2, -1, 1, 2, 6, 7, 8):
                    for weights in [{"x": worth}, {"x": worth, "w": 1}, {"w": worth, "x": -1}]:
                        for readings in [(), ("w",), ("y",)]:
                            if sum_kind(shape, readings, weights) != "never":
                                found = sum_mixing(shape, readings, weights)
                                self.assertIs(fits(shape, found[0]), True)
                                self.assertTrue(mixes(shape, readings, weights, *found))

    def test_sums_that_follow_always(self):
        for shape in edge_shapes():
            weights = {name: -3 for name in shape.unknowns}
            found = sum_mixing(shape, shape.unknowns, weights)
            self.assertIs(check_sum_mixing(shape, shape.unknowns, weights, *found), True)
        self.same(sum_mixing(Shape.read("x"), ("x",), {"x": 2}), ({}, [], 1))

    def test_errors(self):
        self.refused(SumNever, "value", {"x": 5}, sum_mixing, Shape.read("x"), (), {"x": 5})
        self.refused(SumNever, "value", {"x": 5, "y": 1}, sum_mixing, Shape.read("x y; y"), (), {"x": 5, "y": 1})
        self.refused(SumNever, "value", {"x": 5}, sum_mixing, Shape.read("x y; y; -"), ("y",), {"x": 5})


class Point55(PromiseCase):
    SHAPE = Shape.read("w x y z; x y; w y z; z | w")
    FACTORS = {
        (0, "x"): 2, (0, "y"): 1, (1, "w"): 1, (1, "y"): -3, (1, "z"): 2, (2, "z"): -2, (2, "w"): -1,
    }
    WEIGHTS = {"x": 1, "y": -1}

    def test_what_is_accepted(self):
        call = check_sum_mixing
        for part in (1, -1, 3, LARGE, HUGE):
            for kind in (list, tuple):
                given = kind([part, part, part])
                for times, wanted in [(2 * part, True), (part, False), (-2 * part, False), (3 * part, False)]:
                    arguments = (self.SHAPE, (), self.WEIGHTS, self.FACTORS, given, times)
                    self.assertIs(self.given(call, *arguments), wanted)
                less = kind([part, part, 0])
                self.assertIs(call(self.SHAPE, ("w", "z"), self.WEIGHTS, self.FACTORS, less, 2 * part), True)
                self.assertIs(call(self.SHAPE, (), self.WEIGHTS, self.FACTORS, less, 2 * part), False)
        self.assertIs(call(self.SHAPE, (), {"x": 2, "y": -2}, self.FACTORS, [1, 1, 1], 1), True)
        self.assertIs(call(self.SHAPE, (), {"x": 2, "y": -2}, self.FACTORS, [-1, -1, -1], -1), True)
        self.assertIs(call(self.SHAPE, (), {"x": 2, "y": 2}, self.FACTORS, [1, 1, 1], 1), False)
        self.assertIs(call(self.SHAPE, (), {"x": 2}, self.FACTORS, [1, 1, 1], 1), False)
        self.assertIs(call(self.SHAPE, ("y",), {"x": 2}, self.FACTORS, [1, 1, 1], 1), True)
        self.assertIs(call(self.SHAPE, ("x",), {"x": 9, "y": -2}, self.FACTORS, [1, 1, 1], 1), True)
        self.assertIs(call(self.SHAPE, ("x", "y"), {"x": 9}, self.FACTORS, [0, 0, 0], 5), True)

    def test_all_multipliers_of_small_shapes(self):
        for shape in shapes_over(("x", "y"), 2):
            for factors in factors_over(shape, (0, 1, -2)):
                for given in itertools.product((-1, 0, 2), repeat=len(shape.rows)):
                    for readings, weights, times in [
                        ((), {"x": 1, "y": -2}, 1), ((), {"y": 1}, -2), (("y",), {"x": 2, "y": 3}, 1),
                    ]:
                        self.assertIs(
                            check_sum_mixing(shape, readings, weights, factors, list(given), times),
                            mixes(shape, readings, weights, factors, given, times),
                        )

    def test_times_of_any_kind(self):
        for value in ANY_VALUES:
            arguments = (self.SHAPE, (), {"x": 2, "y": -2}, self.FACTORS, [1, 1, 1], value)
            self.assertIs(self.given(check_sum_mixing, *arguments), type(value) is int and value == 1)
            zeros = (self.SHAPE, ("x", "y"), {"x": 2}, self.FACTORS, [0, 0, 0], value)
            self.assertIs(self.given(check_sum_mixing, *zeros), type(value) is int and value != 0)

    def test_wrong_factors_and_multipliers(self):
        call, weights = check_sum_mixing, {"x": 2, "y": -2}
        self.assertIs(call(self.SHAPE, (), weights, self.FACTORS, [1, 1, 1], 1), True)
        for wrong in wrong_factors(self.SHAPE, self.FACTORS):
            self.assertIs(self.given(call, self.SHAPE, (), weights, wrong, [1, 1, 1], 1), False)
        for wrong in [[], [1], [1, 1], [1, 1, 1, 0], [1, 1, 1, 1], (), (1, 1), (1, 1, 1, 0)]:
            self.assertIs(self.given(call, self.SHAPE, (), weights, self.FACTORS, wrong, 1), False)
        for value in NOT_INTEGERS:
            for at in range(3):
                wrong = [1, 1, 1]
                wrong[at] = value
                self.assertIs(self.given(call, self.SHAPE, (), weights, self.FACTORS, wrong, 1), False)
                self.assertIs(call(self.SHAPE, (), weights, self.FACTORS, tuple(wrong), 1), False)

    def test_what_is_accepted_follows(self):
        chance = random.Random(58)
        many = 0
        for _ in range(400):
            shape = some_shape(chance, EIGHT[:chance.randint(1, 4)], 4)
            factors = some_factors(shape, chance, 2)
            readings = chance.choice(all_sets(shape.unknowns))
            given = [chance.randint(-1, 1) for _ in shape.rows]
            sums = {name: column_sum(shape, factors, given, name) for name in unread(shape, readings)}
            weights = {name: total for name, total in sums.items() if total != 0}
            if weights:
                many += 1
                self.assertIs(check_sum_mixing(shape, readings, weights, factors, given, 1), True)
                self.assertIs(follows(shape, factors, readings, weights), True)
                self.assertIn(sum_kind(shape, readings, weights), ("always", "sometimes"))
        self.assertGreater(many, 50)


class Point41ForSums(PromiseCase):
    def test_with_a_reading_more_no_sum_gets_a_later_kind(self):
        for shape, readings, weights in cases(40, 59):
            before = ORDER.index(sum_kind(shape, readings, weights))
            for name in unread(shape, readings):
                after = sum_kind(shape, tuple(sorted([*readings, name])), weights)
                self.assertLessEqual(ORDER.index(after), before)


class Point10(PromiseCase):
    def test_results_are_new(self):
        shape, weights = example(), {"x": 1, "y": -1}
        for call in (sum_hiding, sum_mixing):
            held = call(shape, (), weights)
            for part in call(shape, (), weights)[:2]:
                part.clear()
            self.same(call(shape, (), weights), held)

    def test_the_order_of_the_keys_has_no_meaning(self):
        shape = Shape.read("w x y z; w x y z; w x | y z; y z | w")
        for numbers in [(1, -1, 2, -2), (1, 1, 1, 1), (3, -1, -1, -1)]:
            table = dict(zip("wxyz", numbers))
            for keys in itertools.permutations("wxyz"):
                weights = {key: table[key] for key in keys}
                for call in (sum_kind, sum_hiding, sum_mixing):
                    self.same(call(shape, (), weights), call(shape, (), table))

    def test_by_name(self):
        shape, weights = example(), {"x": 1, "y": -1}
        self.same(sum_kind(weights=weights, readings=(), shape=shape), "sometimes")
        factors, values = sum_hiding(weights=weights, readings=(), shape=shape)
        self.assertIs(
            check_sum_hiding(values=values, factors=factors, weights=weights, readings=(), shape=shape), True,
        )
        factors, multipliers, times = sum_mixing(weights=weights, readings=(), shape=shape)
        self.assertIs(
            check_sum_mixing(
                times=times, multipliers=multipliers, factors=factors, weights=weights, readings=(), shape=shape,
            ),
            True,
        )

    def test_interface(self):
        three = ["shape", "readings", "weights"]
        wanted = {
            "sum_kind": three, "sum_hiding": three, "sum_mixing": three,
            "check_sum_hiding": [*three, "factors", "values"],
            "check_sum_mixing": [*three, "factors", "multipliers", "times"],
        }
        for name, arguments in wanted.items():
            call = getattr(module, name)
            self.assertEqual(list(inspect.signature(call).parameters), arguments)
            self.assertEqual(call.__module__, "anyfactors.sums")


if __name__ == "__main__":
    unittest.main()
