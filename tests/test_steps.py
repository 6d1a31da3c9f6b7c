"""Points 7 and 27 to 31: steps, and what follows with all factors."""

import inspect
import itertools
import random
import unittest
from fractions import Fraction

from anyfactors import steps as module
from anyfactors.errors import BadCount, BadFactors, BadNumber, BadSet, BadSteps, NotReached, UnknownName
from anyfactors.factors import follows_with
from anyfactors.shapes import Shape, all_sets
from anyfactors.steps import always, check_steps, followed, reached, steps_from, steps_to
from checks import ANY_VALUES, HUGE, PromiseCase
from samples import (
    LARGE, NOT_INTEGERS, NOT_UNKNOWNS, edge_shapes, factors_over, not_sets, shapes_over, some_cases, some_shape,
    sums_by_hand, wrong_factors,
)


def example():
    return Shape.read("x y z; x y; y z; z | x")


def is_valid(shape, readings, steps):
    """Whether tuples of a number and a name are valid steps, word by word as point 27 has it."""
    for at, (number, name) in enumerate(steps):
        earlier = [found for _, found in steps[:at]]
        if number not in range(len(shape.rows)) or name not in shape.rows[number][0]:
            return False
        if name in readings or name in earlier:
            return False
        others = [other for other in shape.rows[number][0] + shape.rows[number][1] if other != name]
        if not all(other in readings or other in earlier for other in others):
            return False
    return True


def possible(shape, readings, steps):
    """All steps that can be made behind these, in order."""
    found = [(number, name) for number in range(len(shape.rows)) for name in shape.unknowns]
    return [step for step in found if is_valid(shape, readings, [*steps, step])]


def reached_by_any_order(shape, readings):
    """All sets of unknowns at which steps can end, made in every order."""
    ends = set()
    ways = [()]
    while ways:
        steps = ways.pop()
        more = possible(shape, readings, steps)
        ways.extend([(*steps, step) for step in more])
        if not more:
            ends.add(tuple(sorted({*readings, *(name for _, name in steps)})))
    return ends


class Point27(PromiseCase):
    def test_example(self):
        shape = example()
        self.assertIs(check_steps(shape, ("x",), [(1, "z")]), False)
        self.assertIs(check_steps(shape, ("x",), [(0, "y"), (1, "z")]), True)

    def test_all_lists_of_steps_over_small_shapes(self):
        names = ("x", "y")
        steps = [(number, name) for number in (-1, 0, 1, 2) for name in ("w", "x", "y")]
        lists = [list(chosen) for many in range(3) for chosen in itertools.product(steps, repeat=many)]
        for shape in shapes_over(names, 2):
            for readings in all_sets(names):
                for one in lists:
                    self.assertIs(check_steps(shape, readings, one), is_valid(shape, readings, one))

    def test_a_step_left_out_twice_or_exchanged(self):
        shape = Shape.read("a b c d; a; a b; b c; c d; a d")
        steps = [(0, "a"), (1, "b"), (2, "c"), (3, "d")]
        self.assertIs(self.given(check_steps, shape, (), steps), True)
        self.assertIs(check_steps(shape, (), steps[:-1]), True)
        for chosen in itertools.permutations(steps):
            self.assertIs(check_steps(shape, (), list(chosen)), list(chosen) == steps)
        for at in range(4):
            self.assertIs(check_steps(shape, (), steps[:at] + steps[at + 1:]), at == 3)
            self.assertIs(check_steps(shape, (), steps[:at] + [steps[at]] + steps[at:]), False)
            self.assertIs(check_steps(shape, (), steps + [steps[at]]), False)
            self.assertIs(check_steps(shape, (steps[at][1],), steps), False)
        self.assertIs(check_steps(shape, (), [(0, "a"), (4, "d"), (1, "b"), (2, "c")]), True)
        self.assertIs(check_steps(shape, (), [(0, "a"), (4, "d"), (1, "b"), (2, "c"), (3, "d")]), False)

    def test_perhaps_unknowns(self):
        shape = Shape.read("x y; x | y; - | x; y")
        self.assertIs(check_steps(shape, (), [(1, "x")]), False)
        self.assertIs(check_steps(shape, (), [(0, "x")]), False)
        self.assertIs(check_steps(shape, ("x",), [(0, "y")]), False)
        self.assertIs(check_steps(shape, ("y",), [(0, "x")]), True)
        self.assertIs(check_steps(shape, (), [(2, "y"), (0, "x")]), True)

    def test_items_of_any_kind(self):
        shape = Shape.read("x y; x; y; x y")
        strange = ANY_VALUES + [
            (0, "x", "y"), (0,), [0, "x"], ("x", 0), ("0", "x"), (0, ["x"]), (0, ("x",)), ([0], "x"), {0: "x"},
            {"number": 0, "name": "x"}, ((0, "x"),), [(0, "x")], (None, "x"), (0, None), (0, 0), (0, True), "0x",
            (-4, "x"), (4, "x"), (HUGE, "x"), (-HUGE, "x"), (0, ""), (0, "w"), (0, "X"), (0, {"x": 1}), (0, [[["x"]]]),
        ]
        for item in strange:
            for steps in [[item], [(0, "x"), item], [item, (0, "x")], (item,)]:
                self.assertIs(self.given(check_steps, shape, (), steps), False, item)

    def test_true_as_a_row_number(self):
        shape = Shape.read("x y; x; y")
        self.assertIs(check_steps(shape, (), [(1, "y"), (0, "x")]), True)
        self.assertIs(check_steps(shape, (), [(True, "y")]), False)
        self.assertIs(check_steps(shape, (), [(False, "x")]), False)
        self.assertIs(check_steps(shape, (), [(0, "x"), (True, "y")]), False)

    def test_the_empty_list_and_tuples(self):
        for shape in edge_shapes():
            for readings in [(), shape.unknowns]:
                self.assertIs(check_steps(shape, readings, []), True)
                self.assertIs(check_steps(shape, readings, ()), True)
                steps = steps_from(shape, readings)
                self.assertIs(check_steps(shape, readings, tuple(steps)), True)
                self.assertIs(check_steps(shape, readings, (*steps, *steps)), not steps)


class Point28(PromiseCase):
    def test_example(self):
        shape = example()
        self.same(
            [
                reached(shape, ()), steps_from(shape, ("x",)), steps_to(shape, ("y",), "x"),
                always(shape, ("y",), "x"),
            ],
            [(), [(0, "y"), (1, "z")], [(0, "x")], True],
        )

    def first_ones(self, shape, readings):
        steps = []
        while possible(shape, readings, steps):
            steps.append(possible(shape, readings, steps)[0])
        return steps

    def check(self, shape, readings):
        steps = self.given(steps_from, shape, readings)
        self.same(steps, self.first_ones(shape, readings))
        self.assertIs(check_steps(shape, readings, steps), True)
        found = self.given(reached, shape, readings)
        self.same(found, tuple(sorted({*readings, *(name for _, name in steps)})))
        return found

    def test_every_small_shape(self):
        for names, most in [(("x",), 3), (("x", "y"), 3), (("x", "y", "z"), 2)]:
            for shape in shapes_over(names, most):
                for readings in all_sets(names):
                    self.check(shape, readings)

    def test_larger_shapes(self):
        chance = random.Random(28)
        for shape in edge_shapes() + [some_shape(chance) for _ in range(200)]:
            for readings in [(), shape.unknowns, *chance.sample(all_sets(shape.unknowns), 2)]:
                self.check(shape, readings)

    def test_the_order_of_the_steps_has_no_meaning(self):
        for shape in shapes_over(("x", "y", "z"), 2):
            for readings in all_sets(shape.unknowns)[:4]:
                self.assertEqual(reached_by_any_order(shape, readings), {reached(shape, readings)})
        for text in ["a b c d; a; b; c; a b | d; d | c", "a b c d; a; a b; a b c; a b c d; d; b", "a b c; a; a; a b"]:
            shape = Shape.read(text)
            self.assertEqual(reached_by_any_order(shape, ()), {reached(shape, ())})

    def test_a_lower_row_that_becomes_possible_later_comes_first_then(self):
        shape = Shape.read("a b c d; c d; a b; a; c; d")
        self.same(steps_from(shape, ()), [(2, "a"), (1, "b"), (3, "c"), (0, "d")])
        turned = Shape.read("a b c d; a d; b d; c; a")
        self.same(steps_from(turned, ()), [(2, "c"), (3, "a"), (0, "d"), (1, "b")])

    def test_edges(self):
        self.same(steps_from(Shape.read("x"), ()), [])
        self.same(steps_from(Shape.read("x; -; - | x; x; x"), ()), [(2, "x")])
        self.same(steps_from(Shape.read("x; -; - | x; x; x"), ("x",)), [])
        chain = Shape.read("a b c d e f g h; g h; f g; e f; d e; c d; b c; a b; a")
        self.same(steps_from(chain, ()), [(7 - at, "abcdefgh"[at]) for at in range(8)])
        self.same(reached(chain, ()), tuple("abcdefgh"))
        self.same(reached(chain.without_row(7), ()), ())
        self.same(reached(chain.without_row(7), ("d",)), tuple("abcdefgh"))


class Point29(PromiseCase):
    def is_least(self, shape, readings, steps):
        """Whether the list is not valid any more, or leads elsewhere, without any of its steps."""
        for many in range(len(steps)):
            for chosen in itertools.combinations(steps, many):
                if is_valid(shape, readings, chosen) and chosen and chosen[-1][1] == steps[-1][1]:
                    return False
        return True

    def check(self, shape, readings):
        found = reached(shape, readings)
        for name in shape.unknowns:
            if name in readings:
                self.same(steps_to(shape, readings, name), [])
            elif name in found:
                steps = self.given(steps_to, shape, readings, name)
                self.assertIs(type(steps), list)
                self.assertIs(check_steps(shape, readings, steps), True)
                self.assertIs(is_valid(shape, readings, steps), True)
                self.assertEqual(steps[-1][1], name)
                self.assertIs(self.is_least(shape, readings, steps), True)
            else:
                self.refused(NotReached, "name", name, steps_to, shape, readings, name)

    def test_every_small_shape(self):
        for names, most in [(("x",), 2), (("x", "y"), 3), (("x", "y", "z"), 2)]:
            for shape in shapes_over(names, most):
                for readings in all_sets(names):
                    self.check(shape, readings)

    def test_larger_shapes(self):
        chance = random.Random(29)
        for shape in edge_shapes() + [some_shape(chance) for _ in range(150)]:
            for readings in [(), shape.unknowns, *chance.sample(all_sets(shape.unknowns), 2)]:
                self.check(shape, readings)

    def test_needless_steps_are_left_out(self):
        shape = Shape.read("a b c d e; a; b; c; a c | d; b d; e")
        self.same(steps_to(shape, (), "e"), [(5, "e")])
        self.same(steps_to(Shape.read("a b c; a; b; a c"), (), "c"), [(0, "a"), (2, "c")])
        self.same(steps_to(Shape.read("a b c; a b; b; c; a"), ("b",), "a"), [(0, "a")])

    def test_errors(self):
        shape = example()
        for value in not_sets(shape.unknowns):
            self.assertIs(self.refused(BadSet, "value", value, steps_to, shape, value, "w"), value)
        for name in NOT_UNKNOWNS:
            self.assertIs(self.refused(UnknownName, "name", name, steps_to, shape, (), name), name)
        for name in "xyz":
            self.assertIs(self.refused(NotReached, "name", name, steps_to, shape, (), name), name)


class Points7And30(PromiseCase):
    def test_always_is_what_is_reached(self):
        chance = random.Random(30)
        for shape in [*edge_shapes(), *shapes_over(("x", "y"), 2), *[some_shape(chance) for _ in range(40)]]:
            for readings in [(), shape.unknowns, *chance.sample(all_sets(shape.unknowns), 2)]:
                for name in shape.unknowns:
                    self.assertIs(self.given(always, shape, readings, name), name in reached(shape, readings))

    def test_readings_follow_always(self):
        for shape in edge_shapes():
            for name in shape.unknowns:
                self.assertIs(always(shape, (name,), name), True)
                self.assertIs(always(shape, shape.unknowns, name), True)

    def test_always_is_with_all_factors(self):
        # Among these numbers there are enough factors, by point 33, to hide what does not follow always.
        for many, most, numbers in [(1, 2, (-1, 0, 1)), (2, 2, (-1, 0, 1)), (3, 1, (-2, -1, 0, 1))]:
            names = ("x", "y", "z")[:many]
            for shape in shapes_over(names, most):
                all_factors = list(factors_over(shape, numbers))
                for readings in all_sets(names):
                    for name in names:
                        each = all(follows_with(shape, factors, readings, name) for factors in all_factors)
                        self.assertIs(always(shape, readings, name), each)

    def test_what_is_reached_follows_with_any_factors(self):
        for shape, factors, readings in some_cases(200, 31):
            for name in reached(shape, readings):
                self.assertIs(follows_with(shape, factors, readings, name), True)

    def test_errors(self):
        shape = example()
        for value in not_sets(shape.unknowns):
            self.assertIs(self.refused(BadSet, "value", value, always, shape, value, "w"), value)
            self.assertIs(self.refused(BadSet, "value", value, reached, shape, value), value)
            self.assertIs(self.refused(BadSet, "value", value, steps_from, shape, value), value)
            for steps in [[], [(0, "x")], [None]]:
                self.assertIs(self.refused(BadSet, "value", value, check_steps, shape, value, steps), value)
        for name in NOT_UNKNOWNS:
            self.assertIs(self.refused(UnknownName, "name", name, always, shape, ("x",), name), name)


class Point31(PromiseCase):
    FACTORS = {(0, "x"): 2, (0, "y"): 3, (1, "y"): 1, (1, "z"): -1, (2, "z"): 4, (2, "x"): 0}
    STEPS = [(0, "y"), (1, "z")]

    def test_example(self):
        self.same(
            self.given(followed, example(), self.FACTORS, [8, 5, 0], {"x": 1}, self.STEPS),
            {"x": (1, 1), "y": (2, 1), "z": (-3, 1)},
        )

    def test_lowest_terms(self):
        shape = Shape.read("x; x")
        for factor in [*range(-12, 0), *range(1, 13), LARGE, -LARGE]:
            for side in [*range(-12, 13), LARGE, -LARGE, HUGE]:
                wanted = Fraction(side, factor)
                found = followed(shape, {(0, "x"): factor}, [side], {}, [(0, "x")])
                self.same(found, {"x": (wanted.numerator, wanted.denominator)})

    def test_zeros(self):
        shape = Shape.read("x y; x; x y")
        factors = {(0, "x"): -7, (1, "x"): 5, (1, "y"): -3}
        self.same(followed(shape, factors, [0, 0], {}, [(0, "x"), (1, "y")]), {"x": (0, 1), "y": (0, 1)})
        self.same(followed(shape, factors, [0, 6], {}, [(0, "x"), (1, "y")]), {"x": (0, 1), "y": (-2, 1)})
        self.same(followed(shape, factors, [0, 0], {"y": 0}, []), {"y": (0, 1)})

    def test_a_perhaps_unknown_with_the_factor_0_and_without(self):
        shape = Shape.read("x y; x | y")
        for worth, wanted in [(0, (5, 2)), (1, (-1, 1)), (-1, (6, 1)), (-3, (13, 1))]:
            self.same(
                followed(shape, {(0, "x"): 2, (0, "y"): worth}, [5], {"y": 7}, [(0, "x")]),
                {"x": wanted, "y": (7, 1)},
            )

    def test_readings_alone(self):
        self.same(followed(Shape.read("x y"), {}, [], {}, []), {})
        self.same(followed(Shape.read("x y"), {}, (), {"y": -HUGE, "x": 3}, ()), {"x": (3, 1), "y": (-HUGE, 1)})
        self.same(followed(Shape.read("x y; -"), {}, [5], {"y": 2}, []), {"y": (2, 1)})

    def test_all_shapes_with_solutions_of_their_own(self):
        chance = random.Random(32)
        many = 0
        for shape, factors, readings in some_cases(400, 33):
            values = {name: chance.randint(-9, 9) for name in shape.unknowns}
            sides = sums_by_hand(shape, factors, values)
            known = {name: values[name] for name in readings}
            steps = steps_from(shape, readings)
            many += len(steps)
            found = self.given(followed, shape, factors, sides, known, steps)
            self.same(found, {name: (values[name], 1) for name in reached(shape, readings)})
            part = steps[:len(steps) // 2]
            found = followed(shape, factors, sides, known, part)
            self.assertEqual(sorted(found), sorted([*readings, *[name for _, name in part]]))
        self.assertGreater(many, 300)

    def test_fractions_fit_into_the_rows(self):
        chance = random.Random(34)
        for shape, factors, readings in some_cases(400, 35):
            sides = [chance.randint(-LARGE, LARGE) for _ in shape.rows]
            known = {name: chance.choice((0, 1, -5, LARGE)) for name in readings}
            steps = steps_from(shape, readings)
            found = followed(shape, factors, sides, known, steps)
            values = {name: Fraction(top, bottom) for name, (top, bottom) in found.items()}
            for name, fraction in found.items():
                self.same(fraction, (values[name].numerator, values[name].denominator))
            for name in readings:
                self.same(found[name], (known[name], 1))
            for number, _ in steps:
                sure, perhaps = shape.rows[number]
                total = sum(factors[(number, name)] * values[name] for name in sure + perhaps)
                self.assertEqual(total, sides[number])

    def test_factors_that_do_not_fit(self):
        shape = example()
        for wrong in wrong_factors(shape, self.FACTORS):
            held = self.refused(BadFactors, "value", wrong, followed, shape, wrong, [8, 5, 0], {"x": 1}, self.STEPS)
            self.assertIs(held, wrong)

    def test_sides(self):
        shape = example()
        for sides in [[], [8], [8, 5], [8, 5, 0, 0], (8, 5), [None] * 4]:
            self.refused(BadCount, "count", len(sides), followed, shape, self.FACTORS, sides, {"x": 1}, self.STEPS)
        self.refused(BadCount, "count", 1, followed, Shape.read("x"), {}, [0], {}, [])
        for value in NOT_INTEGERS:
            for sides in [[value, 5, 0], [8, value, 0], [8, 5, value], (8, value, []), [value, {}, None]]:
                held = self.refused(
                    BadNumber, "value", value, followed, shape, self.FACTORS, sides, {"x": 1}, self.STEPS,
                )
                self.assertIs(held, value)

    def test_known_values(self):
        shape = example()
        sides = [8, 5, 0]
        for name in NOT_UNKNOWNS:
            for known in [{name: 1}, {"x": None, name: None}, {name: 1, "x": 1}]:
                self.refused(UnknownName, "name", name, followed, shape, self.FACTORS, sides, known, self.STEPS)
        known = {"w": 1, "b": 1, "a": 1, "x": 1}
        self.refused(UnknownName, "name", "a", followed, shape, self.FACTORS, sides, known, self.STEPS)
        for value in NOT_INTEGERS:
            for known in [{"x": value}, {"z": None, "x": value}, {"z": [], "y": value, "x": 1}]:
                held = self.refused(
                    BadNumber, "value", value, followed, shape, self.FACTORS, sides, known, self.STEPS,
                )
                self.assertIs(held, value)

    def test_steps_that_are_not_valid(self):
        shape = example()
        sides = [8, 5, 0]
        for steps in [
            [(1, "z")], [(1, "z"), (0, "y")], [(0, "y"), (0, "y")], [(0, "x")], [(0, "y"), (True, "z")], [None],
            [[0, "y"]], [(0, "y"), (2, "z"), (1, "z")], ((1, "z"),), [(0, "y", 1)], [(3, "y")], [(-3, "y")], "xy",
            [(0, "y"), (1, ["z"])],
        ]:
            held = self.refused(BadSteps, "value", steps, followed, shape, self.FACTORS, sides, {"x": 1}, steps)
            self.assertIs(held, steps)
        # The same steps with other readings: one too few, and one that the steps find.
        for known in [{}, {"x": 1, "y": 2}, {"x": 1, "z": 2}]:
            self.refused(BadSteps, "value", self.STEPS, followed, shape, self.FACTORS, sides, known, self.STEPS)

    def test_the_order_of_the_errors(self):
        shape = example()
        factors, known = self.FACTORS, {"w": None, "x": None}
        self.refused(BadFactors, "value", {}, followed, shape, {}, [None], known, [None])
        self.refused(BadCount, "count", 1, followed, shape, factors, [None], known, [None])
        self.refused(BadNumber, "value", None, followed, shape, factors, [1, None, True], known, [None])
        self.refused(UnknownName, "name", "w", followed, shape, factors, [1, 2, 3], known, [None])
        self.refused(BadNumber, "value", True, followed, shape, factors, [1, 2, 3], {"x": True, "y": None}, [None])
        self.refused(BadSteps, "value", [None], followed, shape, factors, [1, 2, 3], {"x": 1}, [None])


class Point10(PromiseCase):
    def test_results_are_new(self):
        shape = example()
        for call, arguments in [
            (steps_from, [shape, ("x",)]), (steps_to, [shape, ("x",), "z"]), (steps_to, [shape, ("x",), "x"]),
        ]:
            found = call(*arguments)
            held = list(found)
            found.append((2, "z"))
            found.reverse()
            self.same(call(*arguments), held)
        arguments = [shape, Point31.FACTORS, [8, 5, 0], {"x": 1}, Point31.STEPS]
        found = followed(*arguments)
        held = dict(found)
        found["x"] = (9, 1)
        del found["y"]
        self.same(followed(*arguments), held)

    def test_tuples_for_lists_and_other_orders_of_keys(self):
        shape = Shape.read("x y z; x y z")
        factors = {(0, "x"): 2, (0, "y"): -3, (0, "z"): 5}
        wanted = {"x": (7, 1), "y": (-4, 1), "z": (-17, 5)}
        for keys in itertools.permutations(factors):
            for sides in [[9], (9,)]:
                for steps in [[(0, "z")], ((0, "z"),)]:
                    for known in [{"x": 7, "y": -4}, {"y": -4, "x": 7}]:
                        found = followed(shape, {key: factors[key] for key in keys}, sides, known, steps)
                        self.same(found, wanted)

    def test_by_name(self):
        shape = example()
        self.assertIs(check_steps(steps=[(0, "y")], readings=("x",), shape=shape), True)
        self.same(steps_from(readings=("x",), shape=shape), [(0, "y"), (1, "z")])
        self.same(reached(readings=("x",), shape=shape), ("x", "y", "z"))
        self.same(steps_to(name="x", readings=("y",), shape=shape), [(0, "x")])
        self.assertIs(always(name="x", readings=(), shape=shape), False)
        self.same(
            followed(steps=[(0, "y")], known={"x": 1}, sides=[8, 5, 0], factors=Point31.FACTORS, shape=shape),
            {"x": (1, 1), "y": (2, 1)},
        )

    def test_interface(self):
        wanted = {
            "check_steps": ["shape", "readings", "steps"], "steps_from": ["shape", "readings"],
            "reached": ["shape", "readings"], "steps_to": ["shape", "readings", "name"],
            "always": ["shape", "readings", "name"], "followed": ["shape", "factors", "sides", "known", "steps"],
        }
        for name, arguments in wanted.items():
            call = getattr(module, name)
            self.assertEqual(list(inspect.signature(call).parameters), arguments)
            self.assertEqual(call.__module__, "anyfactors.steps")


if __name__ == "__main__":
    unittest.main()
