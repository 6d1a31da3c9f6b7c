"""Points 7, 9 and 36 to 41: kinds, strikes, and factors and multipliers that give an unknown alone."""

import inspect
import itertools
import random
import unittest

from anyfactors import kinds as module
from anyfactors.errors import BadSet, IsRead, NotMixed, UnknownName
from anyfactors.factors import fits, follows_with
from anyfactors.hiding import check_hiding, hiding
from anyfactors.kinds import check_mixing, check_strikes, kind_of, kinds, left_rows, mixing, strikes_for
from anyfactors.shapes import Shape, all_sets
from anyfactors.steps import reached
from checks import ANY_VALUES, HUGE, PromiseCase
from plain import (
    ORDER, column_sum, is_strike, plain_kinds, plain_reached, possible_strikes, rows_with, strikers_for,
    strikes_in_order,
)
from samples import (
    EIGHT, LARGE, NOT_INTEGERS, NOT_UNKNOWNS, edge_shapes, factors_over, not_sets, shapes_over, some_cases,
    some_factors, some_shape, unread, wrong_factors,
)


def example():
    return Shape.read("w x y z; x y; x y; w y z")


def small_cases():
    """All shapes of few unknowns and rows, with all readings."""
    for names, most in [(("x",), 3), (("x", "y"), 3), (("x", "y", "z"), 2)]:
        for shape in shapes_over(names, most):
            for readings in all_sets(names):
                yield shape, readings


def large_cases(many, seed):
    """Shapes at the edges and drawn ones, with no readings, all unknowns as readings, and drawn readings."""
    chance = random.Random(seed)
    for shape in edge_shapes() + [some_shape(chance) for _ in range(many)]:
        for readings in [(), shape.unknowns, *chance.sample(all_sets(shape.unknowns), 2)]:
            yield shape, readings


class Example(PromiseCase):
    def test_example(self):
        shape = example()
        self.same(
            [kinds(shape, ()), kinds(shape, ("z",))],
            [
                {"w": "never", "x": "sometimes", "y": "sometimes", "z": "never"},
                {"w": "sometimes", "x": "sometimes", "y": "sometimes", "z": "always"},
            ],
        )
        self.same(
            [strikes_for(shape, (), "z"), left_rows(shape, (), "z"), strikes_for(shape, (), "x"),
             left_rows(shape, (), "x")],
            [[(2, "w")], [0, 1], [(2, "w")], [0, 1]],
        )
        factors, multipliers = mixing(shape, (), "x")
        self.same(
            [multipliers, check_mixing(shape, (), "x", factors, multipliers),
             check_strikes(shape, (), "z", [(2, "w")])],
            [[1, 1, 0], True, True],
        )


class Point36(PromiseCase):
    def check(self, shape, readings):
        for name in unread(shape, readings):
            strikes = self.given(strikes_for, shape, readings, name)
            self.same(strikes, strikes_in_order(shape, strikers_for(shape, readings, name)))
            left = self.given(left_rows, shape, readings, name)
            struck = [number for number, _ in strikes]
            self.same(left, [number for number in range(len(shape.rows)) if number not in struck])

    def test_small_shapes(self):
        for shape, readings in small_cases():
            self.check(shape, readings)

    def test_larger_shapes(self):
        for shape, readings in large_cases(120, 36):
            self.check(shape, readings)

    def ends(self, shape, strikers):
        """All lists of rows that are left when strikes are made in any order."""
        ends = set()
        ways = [()]
        while ways:
            struck = ways.pop()
            more = possible_strikes(shape, strikers, struck)
            ways.extend([(*struck, number) for number, _ in more])
            if not more:
                ends.add(tuple(number for number in range(len(shape.rows)) if number not in struck))
        return ends

    def test_the_order_of_the_strikes_has_no_meaning(self):
        for shape in shapes_over(("x", "y", "z"), 2):
            for name in "xyz":
                self.assertEqual(
                    self.ends(shape, strikers_for(shape, (), name)), {tuple(left_rows(shape, (), name))},
                )
        for text in ["a b c d e; a b; b c; c d; a d | e", "a b c d; a; b; c; a b c d", "a b c; a b; a b; c | a; b c"]:
            shape = Shape.read(text)
            for name in shape.unknowns:
                self.assertEqual(
                    self.ends(shape, strikers_for(shape, (), name)), {tuple(left_rows(shape, (), name))},
                )

    def test_the_first_possible_strike_by_the_row_and_then_by_the_unknown(self):
        self.same(strikes_for(Shape.read("a b c d; d; b c; a d"), (), "d"), [(1, "b"), (2, "a")])
        self.same(strikes_for(Shape.read("a b c d; a b; a c; c d; d"), (), "d"), [(0, "b"), (1, "a"), (2, "c")])
        # A row in front of the others may become possible last.
        self.same(strikes_for(Shape.read("a b c d; c d; b c; a b"), (), "d"), [(2, "a"), (1, "b"), (0, "c")])

    def test_what_cannot_strike(self):
        # A perhaps unknown, a reading, the unknown itself, and one that occurs perhaps in another row.
        self.same(strikes_for(Shape.read("x y; y | x"), (), "y"), [])
        self.same(strikes_for(Shape.read("x y; x y"), ("x",), "y"), [])
        self.same(strikes_for(Shape.read("x y; y"), (), "y"), [])
        self.same(strikes_for(Shape.read("x y; x y; y | x"), (), "y"), [])
        self.same(strikes_for(Shape.read("x y; x y"), (), "y"), [(0, "x")])

    def test_edges(self):
        self.same([strikes_for(Shape.read("x"), (), "x"), left_rows(Shape.read("x"), (), "x")], [[], []])
        self.same(left_rows(Shape.read("x; -; x; - | x"), (), "x"), [0, 1, 2])
        self.same(left_rows(Shape(EIGHT, [((), ())] * 8), (), "x"), list(range(8)))
        self.same(left_rows(Shape(EIGHT, [(EIGHT, ())] * 8), (), "x"), list(range(8)))
        self.same(left_rows(Shape(EIGHT, [((), EIGHT)] * 8), (), "x"), list(range(8)))
        chain = Shape.read("a b c d e f g h; a b; b c; c d; d e; e f; f g; g h; h")
        self.same(strikes_for(chain, (), "h"), [(at, "abcdefg"[at]) for at in range(7)])
        self.same(left_rows(chain, (), "h"), [7])
        self.same(left_rows(chain, (), "a"), list(range(8)))
        self.same(left_rows(chain, ("d",), "h"), [3, 4, 5, 6, 7])

    def test_errors_of_all_functions(self):
        shape = example()
        calls = [
            (strikes_for, ()), (left_rows, ()), (mixing, ()), (check_mixing, ({}, [])), (check_strikes, ([],)),
            (kind_of, ()),
        ]
        for call, more in calls:
            for value in not_sets(shape.unknowns):
                for name in ["x", "q", "z"]:
                    self.assertIs(self.refused(BadSet, "value", value, call, shape, value, name, *more), value)
            for name in NOT_UNKNOWNS:
                for readings in [(), ("x",), shape.unknowns]:
                    held = self.refused(UnknownName, "name", name, call, shape, readings, name, *more)
                    self.assertIs(held, name)
        for call, more in calls[:-1]:
            for readings in [("x",), ("x", "z"), shape.unknowns]:
                for name in readings:
                    self.assertIs(self.refused(IsRead, "name", name, call, shape, readings, name, *more), name)


class Point37(PromiseCase):
    def check(self, shape, readings):
        for name in unread(shape, readings):
            if not set(left_rows(shape, readings, name)) & set(rows_with(shape, name)):
                self.refused(NotMixed, "name", name, mixing, shape, readings, name)
                continue
            found = self.given(mixing, shape, readings, name)
            self.assertIs(type(found), tuple)
            factors, multipliers = found
            self.assertIs(type(factors), dict)
            self.assertIs(type(multipliers), list)
            self.assertEqual(len(multipliers), len(shape.rows))
            self.assertTrue(all(type(item) is int and item in (0, 1) for item in multipliers))
            self.assertIs(fits(shape, factors), True)
            for other in unread(shape, readings):
                self.assertEqual(column_sum(shape, factors, multipliers, other) != 0, other == name)
            self.assertIs(check_mixing(shape, readings, name, factors, multipliers), True)
            self.assertIs(follows_with(shape, factors, readings, name), True)

    def test_small_shapes(self):
        for shape, readings in small_cases():
            self.check(shape, readings)

    def test_larger_shapes(self):
        for shape, readings in large_cases(150, 37):
            self.check(shape, readings)

    def test_each_kind_of_column(self):
        # The turned rows: an unknown that stands surely in some rows and perhaps in others.
        for sure in range(9):
            for perhaps in range(9 - sure):
                marks = [(("x",), ("w",))] * sure + [(("w",), ("x",))] * perhaps + [(("w",), ())] * (8 - sure - perhaps)
                shape = Shape(["w", "x", "y"], marks)
                for readings in all_sets(("w", "x", "y")):
                    self.check(shape, readings)

    def test_errors(self):
        shape = Shape.read("x y; x y")
        for name in "xy":
            self.refused(NotMixed, "name", name, mixing, shape, (), name)
        self.refused(NotMixed, "name", "x", mixing, Shape.read("x"), (), "x")
        self.refused(NotMixed, "name", "x", mixing, Shape.read("x y; -; - | y"), ("y",), "x")
        # A reading is refused as one, even where it occurs in no row.
        self.refused(IsRead, "name", "x", mixing, Shape.read("x"), ("x",), "x")


class Point38(PromiseCase):
    SHAPE = Shape.read("w x y z; x y; x y; w y z")
    FACTORS = {(0, "x"): 1, (0, "y"): 1, (1, "x"): 1, (1, "y"): -1, (2, "w"): 1, (2, "y"): 1, (2, "z"): 1}

    def accepted(self, shape, readings, name, factors, multipliers):
        sums = {other: column_sum(shape, factors, multipliers, other) for other in unread(shape, readings)}
        return all((sums[other] != 0) == (other == name) for other in sums)

    def test_what_is_accepted(self):
        for times in [1, -1, 3, LARGE, -LARGE, HUGE]:
            for kind in (list, tuple):
                given = kind([times, times, 0])
                self.assertIs(self.given(check_mixing, self.SHAPE, (), "x", self.FACTORS, given), True)
                self.assertIs(check_mixing(self.SHAPE, (), "y", self.FACTORS, given), False)
                self.assertIs(check_mixing(self.SHAPE, (), "z", self.FACTORS, given), False)
                self.assertIs(check_mixing(self.SHAPE, ("y",), "x", self.FACTORS, given), True)
                other = kind([times, -times, 0])
                self.assertIs(check_mixing(self.SHAPE, (), "x", self.FACTORS, other), False)
                self.assertIs(check_mixing(self.SHAPE, (), "y", self.FACTORS, other), True)

    def test_large_factors(self):
        shape = Shape.read("x y; x y; x y; x y")
        factors = {(0, "x"): LARGE, (0, "y"): 3, (1, "x"): -1, (1, "y"): LARGE, (2, "x"): 7, (2, "y"): -LARGE}
        self.assertIs(check_mixing(shape, (), "x", factors, [0, 1, 1]), True)
        self.assertIs(check_mixing(shape, (), "x", factors, [LARGE, -3, 0]), True)
        self.assertIs(check_mixing(shape, (), "y", factors, [1, LARGE, 0]), True)
        self.assertIs(check_mixing(shape, (), "y", factors, [1, LARGE + 1, 0]), False)

    def test_all_multipliers_of_small_shapes(self):
        for shape in shapes_over(("x", "y"), 2):
            for factors in factors_over(shape, (0, 1, -2)):
                for given in itertools.product((-1, 0, 2), repeat=len(shape.rows)):
                    for readings, name in [((), "x"), ((), "y"), (("y",), "x")]:
                        self.assertIs(
                            check_mixing(shape, readings, name, factors, list(given)),
                            self.accepted(shape, readings, name, factors, given),
                        )

    def test_factors_that_do_not_fit(self):
        for wrong in wrong_factors(self.SHAPE, self.FACTORS):
            self.assertIs(self.given(check_mixing, self.SHAPE, (), "x", wrong, [1, 1, 0]), False)

    def test_multipliers_too_few_and_too_many(self):
        for wrong in [[], [1], [1, 1], [1, 1, 0, 0], [1, 1, 0, 0, 0], (), (1, 1), (1, 1, 0, 0)]:
            self.assertIs(self.given(check_mixing, self.SHAPE, (), "x", self.FACTORS, wrong), False)
        self.assertIs(check_mixing(Shape.read("x; -"), (), "x", {}, [0]), False)
        self.assertIs(check_mixing(Shape.read("x"), (), "x", {}, []), False)

    def test_multipliers_of_other_kinds(self):
        for value in NOT_INTEGERS:
            for at in range(3):
                wrong = [1, 1, 0]
                wrong[at] = value
                self.assertIs(self.given(check_mixing, self.SHAPE, (), "x", self.FACTORS, wrong), False)
                self.assertIs(check_mixing(self.SHAPE, (), "x", self.FACTORS, tuple(wrong)), False)
        # True and False would add up like 1 and 0.
        self.assertIs(check_mixing(self.SHAPE, (), "x", self.FACTORS, [True, True, False]), False)
        self.assertIs(check_mixing(self.SHAPE, (), "x", self.FACTORS, [True, 1, 0]), False)
        self.assertIs(check_mixing(self.SHAPE, (), "x", self.FACTORS, [1, 1, False]), False)

    def test_true_as_a_factor_and_as_a_row_number(self):
        for place in self.FACTORS:
            self.assertIs(check_mixing(self.SHAPE, (), "x", {**self.FACTORS, place: True}, [1, 1, 0]), False)
        renamed = {(True if number == 1 else number, name): worth for (number, name), worth in self.FACTORS.items()}
        self.assertIs(check_mixing(self.SHAPE, (), "x", renamed, [1, 1, 0]), False)

    def test_what_is_accepted_follows(self):
        chance = random.Random(38)
        for shape, factors, readings in some_cases(120, 38):
            for name in unread(shape, readings):
                given = [chance.randint(-1, 1) for _ in shape.rows]
                found = check_mixing(shape, readings, name, factors, given)
                self.assertIs(found, self.accepted(shape, readings, name, factors, given))
                if found:
                    self.assertIs(follows_with(shape, factors, readings, name), True)

    def test_the_order_of_the_keys_has_no_meaning(self):
        for seed in range(10):
            keys = random.Random(seed).sample(list(self.FACTORS), len(self.FACTORS))
            factors = {key: self.FACTORS[key] for key in keys}
            self.assertIs(check_mixing(self.SHAPE, (), "x", factors, [1, 1, 0]), True)


class Point39(PromiseCase):
    def accepted(self, shape, readings, name, strikes):
        """Whether tuples of a number and a name are accepted, word by word as points 36 and 39 have it."""
        struck = []
        for number, other in strikes:
            if not is_strike(shape, strikers_for(shape, readings, name), struck, number, other):
                return False
            struck.append(number)
        return all(number in struck for number in rows_with(shape, name))

    def test_all_lists_of_strikes_over_small_shapes(self):
        names = ("x", "y")
        strikes = [(number, name) for number in (-1, 0, 1, 2) for name in ("w", "x", "y")]
        lists = [list(chosen) for many in range(3) for chosen in itertools.product(strikes, repeat=many)]
        for shape in shapes_over(names, 2):
            for readings, name in [((), "x"), ((), "y"), (("x",), "y"), (("y",), "x")]:
                for one in lists:
                    self.assertIs(
                        check_strikes(shape, readings, name, one), self.accepted(shape, readings, name, one),
                    )

    def test_a_strike_left_out_twice_or_exchanged(self):
        shape = Shape.read("a b c d e; a b; b c; c d; d e")
        strikes = strikes_for(shape, (), "e")
        self.same(strikes, [(0, "a"), (1, "b"), (2, "c"), (3, "d")])
        self.assertIs(self.given(check_strikes, shape, (), "e", strikes), True)
        self.assertIs(self.given(check_strikes, shape, (), "e", tuple(strikes)), True)
        for chosen in itertools.permutations(strikes):
            self.assertIs(check_strikes(shape, (), "e", list(chosen)), list(chosen) == strikes)
        for at in range(4):
            self.assertIs(check_strikes(shape, (), "e", strikes[:at] + strikes[at + 1:]), False)
            self.assertIs(check_strikes(shape, (), "e", strikes[:at] + [strikes[at]] + strikes[at:]), False)
            self.assertIs(check_strikes(shape, (), "e", strikes + [strikes[at]]), False)
            self.assertIs(check_strikes(shape, (strikes[at][1],), "e", strikes), False)
            self.assertIs(check_strikes(shape, (), strikes[at][1], strikes), False)
        # Not all strikes are needed, and an unknown in no row needs none.
        self.assertIs(check_strikes(shape, (), "b", [(0, "a")]), False)
        self.assertIs(check_strikes(Shape.read("a b c d; a b; c d"), (), "b", [(0, "a")]), True)
        self.assertIs(check_strikes(Shape.read("a b c d; a b; c d"), (), "b", [(1, "c"), (0, "a")]), True)
        self.assertIs(check_strikes(Shape.read("a b; a"), (), "b", []), True)
        self.assertIs(check_strikes(Shape.read("a b; a"), (), "b", ()), True)

    def test_two_strikes_of_one_row(self):
        shape = Shape.read("a b c; a b c")
        self.assertIs(check_strikes(shape, (), "c", [(0, "a")]), True)
        self.assertIs(check_strikes(shape, (), "c", [(0, "b")]), True)
        self.assertIs(check_strikes(shape, (), "c", [(0, "a"), (0, "b")]), False)
        self.assertIs(check_strikes(shape, (), "c", [(0, "c")]), False)

    def test_items_of_any_kind(self):
        shape = Shape.read("x y z; x y; z")
        strange = ANY_VALUES + [
            (0, "x", "y"), (0,), [0, "x"], ("x", 0), ("0", "x"), (0, ["x"]), (0, ("x",)), ([0], "x"), {0: "x"},
            {"number": 0, "name": "x"}, ((0, "x"),), [(0, "x")], (None, "x"), (0, None), (0, 0), (0, True), "0x",
            (-2, "x"), (2, "x"), (HUGE, "x"), (-HUGE, "x"), (0, ""), (0, "w"), (0, "X"), (0, {"x": 1}), (0, [[["x"]]]),
        ]
        self.assertIs(check_strikes(shape, (), "y", [(0, "x")]), True)
        for item in strange:
            for strikes in [[item], [(0, "x"), item], [item, (0, "x")], (item,), ((0, "x"), item)]:
                self.assertIs(self.given(check_strikes, shape, (), "y", strikes), False, item)

    def test_true_as_a_row_number(self):
        shape = Shape.read("x y z; z; x y")
        self.assertIs(check_strikes(shape, (), "y", [(1, "x")]), True)
        self.assertIs(check_strikes(shape, (), "y", [(True, "x")]), False)
        self.assertIs(check_strikes(shape, (), "y", [(False, "z"), (1, "x")]), False)
        self.assertIs(check_strikes(shape, (), "y", [(0, "z"), (1, "x")]), True)

    def test_what_is_accepted_follows_never(self):
        for shape, factors, readings in some_cases(150, 39):
            for name in unread(shape, readings):
                if check_strikes(shape, readings, name, strikes_for(shape, readings, name)):
                    self.assertIs(follows_with(shape, factors, readings, name), False)


class Points7And9And40(PromiseCase):
    """Exactly one of factors and multipliers, and strikes; and the kinds that follow from it."""

    def tell(self, shape, readings):
        found = self.given(kinds, shape, readings)
        self.same(found, plain_kinds(shape, readings))
        self.same(list(found), list(shape.unknowns))
        self.assertEqual(
            [name for name in found if found[name] == "always"], list(plain_reached(shape, readings)),
        )
        for name in shape.unknowns:
            self.same(self.given(kind_of, shape, readings, name), found[name])
            if name in unread(shape, readings):
                self.shown(shape, readings, name, found[name])
            else:
                self.same(found[name], "always")

    def shown(self, shape, readings, name, kind):
        strikes = strikes_for(shape, readings, name)
        left = left_rows(shape, readings, name)
        never = not set(left) & set(rows_with(shape, name))
        self.assertEqual(kind == "never", never)
        self.assertIs(check_strikes(shape, readings, name, strikes), never)
        self.assertEqual(kind == "always", name in reached(shape, readings))
        if never:
            self.refused(NotMixed, "name", name, mixing, shape, readings, name)
        else:
            factors, multipliers = mixing(shape, readings, name)
            self.assertIs(check_mixing(shape, readings, name, factors, multipliers), True)
            self.assertIs(follows_with(shape, factors, readings, name), True)
        if kind != "always":
            factors, values = hiding(shape, readings, name)
            self.assertIs(check_hiding(shape, readings, name, factors, values), True)
            self.assertIs(follows_with(shape, factors, readings, name), False)

    def test_small_shapes(self):
        for shape, readings in small_cases():
            self.tell(shape, readings)

    def test_larger_shapes(self):
        for shape, readings in large_cases(120, 40):
            self.tell(shape, readings)

    def told(self, shape, readings, name, numbers):
        """Whether the unknown follows, with each of the factors among these numbers."""
        return {follows_with(shape, factors, readings, name) for factors in factors_over(shape, numbers)}

    def test_the_kinds_against_all_small_factors(self):
        words = {(True,): "always", (False, True): "sometimes", (False,): "never"}
        chance = random.Random(7)
        shapes = list(shapes_over(("x", "y"), 2)) + chance.sample(list(shapes_over(("x", "y", "z"), 2)), 12)
        for shape in shapes:
            for readings in all_sets(shape.unknowns)[:-1]:
                found = kinds(shape, readings)
                for name in shape.unknowns:
                    told = self.told(shape, readings, name, (-1, 0, 1))
                    self.assertEqual(found[name], words[tuple(sorted(told))], (str(shape), readings, name))

    def test_no_drawn_factors_contradict_a_kind(self):
        for shape, factors, readings in some_cases(150, 41):
            found = kinds(shape, readings)
            for name in shape.unknowns:
                follows = follows_with(shape, factors, readings, name)
                self.assertIn(found[name], ("always", "sometimes") if follows else ("sometimes", "never"))

    def test_an_unknown_that_is_read_follows_always(self):
        for shape in edge_shapes():
            for name in shape.unknowns:
                self.same(kind_of(shape, (name,), name), "always")
                self.same(kind_of(shape, shape.unknowns, name), "always")
        self.same(kind_of(Shape.read("x"), (), "x"), "never")
        self.same(kind_of(Shape.read("x; x"), (), "x"), "always")
        self.same(kind_of(Shape.read("x; - | x"), (), "x"), "sometimes")
        self.same(kind_of(Shape.read("x y; x y; x y"), (), "x"), "sometimes")
        self.same(kind_of(Shape.read("x y; x y"), (), "x"), "never")


class Point41(PromiseCase):
    def test_with_a_reading_more_no_kind_becomes_a_later_one(self):
        chance = random.Random(42)
        shapes = [*edge_shapes(), *shapes_over(("x", "y", "z"), 2), *[some_shape(chance) for _ in range(60)]]
        for shape in shapes:
            for readings in [(), *chance.sample(all_sets(shape.unknowns), 2)]:
                before = kinds(shape, readings)
                for more in unread(shape, readings):
                    after = kinds(shape, tuple(sorted([*readings, more])))
                    for name in shape.unknowns:
                        self.assertLessEqual(ORDER.index(after[name]), ORDER.index(before[name]))

    def test_edges(self):
        self.same(kinds(Shape.read("x"), ()), {"x": "never"})
        self.same(kinds(Shape.read("x"), ("x",)), {"x": "always"})
        self.same(kinds(Shape(EIGHT, []), ()), {name: "never" for name in EIGHT})
        self.same(kinds(Shape(EIGHT, []), EIGHT), {name: "always" for name in EIGHT})
        self.same(kinds(Shape(EIGHT, [(EIGHT, ())] * 8), ()), {name: "sometimes" for name in EIGHT})
        self.same(kinds(Shape(EIGHT, [((), EIGHT)] * 8), ()), {name: "sometimes" for name in EIGHT})
        self.same(kinds(Shape(EIGHT, [(EIGHT, ())]), EIGHT[1:]), {name: "always" for name in EIGHT})

    def test_errors(self):
        for value in not_sets(("w", "x", "y", "z")):
            self.assertIs(self.refused(BadSet, "value", value, kinds, example(), value), value)


class Point10(PromiseCase):
    def test_results_are_new(self):
        shape = example()
        for call, arguments in [
            (strikes_for, ((), "z")), (left_rows, ((), "z")), (kinds, ((),)), (mixing, ((), "x")),
        ]:
            held = call(shape, *arguments)
            found = call(shape, *arguments)
            for part in found if isinstance(found, tuple) else [found]:
                part.clear()
            self.same(call(shape, *arguments), held)

    def test_always_the_same_for_equal_shapes(self):
        for shape, readings in large_cases(20, 10):
            other = Shape.read(str(shape)).with_row((), ()).without_row(len(shape.rows)) if len(shape.rows) < 8 else (
                Shape(list(reversed(shape.unknowns)), list(shape.rows))
            )
            self.same(kinds(other, readings), kinds(shape, readings))
            for name in unread(shape, readings):
                self.same(strikes_for(other, readings, name), strikes_for(shape, readings, name))
                if kind_of(shape, readings, name) != "never":
                    self.same(mixing(other, readings, name), mixing(shape, readings, name))

    def test_by_name(self):
        shape = example()
        self.same(strikes_for(name="z", readings=(), shape=shape), [(2, "w")])
        self.same(left_rows(name="z", readings=(), shape=shape), [0, 1])
        factors, multipliers = mixing(name="x", readings=(), shape=shape)
        self.assertIs(
            check_mixing(multipliers=multipliers, factors=factors, name="x", readings=(), shape=shape), True,
        )
        self.assertIs(check_strikes(strikes=[(2, "w")], name="z", readings=(), shape=shape), True)
        self.same(kind_of(name="z", readings=(), shape=shape), "never")
        self.same(kinds(readings=("z",), shape=shape), kinds(shape, ("z",)))

    def test_drawn_factors_for_mixing_stay_as_they_were(self):
        chance = random.Random(43)
        for shape in edge_shapes():
            factors = some_factors(shape, chance)
            for name in shape.unknowns:
                self.given(check_mixing, shape, (), name, factors, [1] * len(shape.rows))

    def test_interface(self):
        wanted = {
            "strikes_for": ["shape", "readings", "name"], "left_rows": ["shape", "readings", "name"],
            "mixing": ["shape", "readings", "name"], "kind_of": ["shape", "readings", "name"],
            "check_mixing": ["shape", "readings", "name", "factors", "multipliers"],
            "check_strikes": ["shape", "readings", "name", "strikes"], "kinds": ["shape", "readings"],
        }
        for name, arguments in wanted.items():
            call = getattr(module, name)
            self.assertEqual(list(inspect.signature(call).parameters), arguments)
            self.assertEqual(call.__module__, "anyfactors.kinds")


if __name__ == "__main__":
    unittest.main()
