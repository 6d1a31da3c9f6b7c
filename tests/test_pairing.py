"""Points 9 and 42 to 46: pairings, crowded sets, factors that tell everything, and spare rows."""

import inspect
import itertools
import random
import unittest

from anyfactors import pairing as module
from anyfactors.errors import BadSet, NoPairing
from anyfactors.factors import fits, follows_with, rank_with
from anyfactors.kinds import kinds
from anyfactors.pairing import check_crowded, check_pairing, crowded, pairing, spare_rows, telling_factors
from anyfactors.shapes import Shape, all_sets
from checks import ANY_VALUES, HUGE, PromiseCase
from plain import rows_with
from samples import (
    EIGHT, NOT_UNKNOWNS, edge_shapes, factors_over, matrix, not_sets, rank, shapes_over, some_cases, some_shape,
    unread,
)

EXAMPLE = Shape.read("x y z; x y; - | z; x; y z")
FEW = Shape.read("x y z; x y z; x; -")


def cases(many, seed):
    for names, most in [(("x",), 2), (("x", "y"), 3), (("x", "y", "z"), 2)]:
        for shape in shapes_over(names, most):
            for readings in all_sets(names):
                yield shape, readings
    chance = random.Random(seed)
    for shape in edge_shapes() + [some_shape(chance) for _ in range(many)]:
        for readings in [(), shape.unknowns, *chance.sample(all_sets(shape.unknowns), 2)]:
            yield shape, readings


def is_crowded(shape, readings, value):
    """Whether a set of names is crowded, word by word as point 43 has it."""
    rows = {number for name in value for number in rows_with(shape, name)}
    return set(value) <= set(unread(shape, readings)) and len(value) > len(rows)


def is_pairing(shape, readings, pairs):
    return (
        sorted(pairs) == unread(shape, readings) and len(set(pairs.values())) == len(pairs)
        and all(number in rows_with(shape, name) for name, number in pairs.items())
    )


class Example(PromiseCase):
    def test_example(self):
        self.same(
            [check_pairing(EXAMPLE, (), {"x": 2, "y": 0, "z": 3}), crowded(EXAMPLE, ()), spare_rows(EXAMPLE, ())],
            [True, None, (0, 1, 2, 3)],
        )
        self.same(rank_with(EXAMPLE, telling_factors(EXAMPLE, ("x",)), ("x",)), 2)
        self.same(
            [pairing(FEW, ()), check_crowded(FEW, (), ("y", "z")), pairing(FEW, ("z",))],
            [None, True, {"x": 1, "y": 0}],
        )


class Points9And42To44(PromiseCase):
    def test_exactly_one_of_both(self):
        for shape, readings in cases(150, 42):
            pairs = self.given(pairing, shape, readings)
            found = self.given(crowded, shape, readings)
            self.assertIs(pairs is None, found is not None)
            # A plain look at all sets: by Hall's theorem a crowded one is all that stands against a pairing.
            sets = [chosen for chosen in all_sets(tuple(unread(shape, readings)))]
            self.assertIs(any(is_crowded(shape, readings, chosen) for chosen in sets), pairs is None)
            if pairs is None:
                self.assertIs(type(found), tuple)
                self.assertEqual(found, tuple(sorted(found)))
                self.assertTrue(is_crowded(shape, readings, found))
                self.assertIs(check_crowded(shape, readings, found), True)
            else:
                self.assertIs(type(pairs), dict)
                self.assertTrue(all(type(number) is int for number in pairs.values()))
                self.assertTrue(is_pairing(shape, readings, pairs))
                self.assertIs(check_pairing(shape, readings, pairs), True)

    def test_all_pairs_over_small_shapes(self):
        for shape in shapes_over(("x", "y"), 2):
            for readings in all_sets(("x", "y")):
                found = []
                for keys in all_sets(("x", "y")):
                    for numbers in itertools.product((-1, 0, 1, 2), repeat=len(keys)):
                        pairs = dict(zip(keys, numbers))
                        wanted = is_pairing(shape, readings, pairs)
                        self.assertIs(self.given(check_pairing, shape, readings, pairs), wanted)
                        found.append(wanted)
                self.assertIs(pairing(shape, readings) is not None, any(found))

    def test_all_sets_over_small_shapes(self):
        for shape in shapes_over(("x", "y", "z"), 2):
            for readings in [(), ("y",), ("x", "z"), ("x", "y", "z")]:
                for chosen in all_sets(("x", "y", "z")):
                    self.assertIs(
                        check_crowded(shape, readings, chosen), is_crowded(shape, readings, chosen),
                    )

    def test_a_pairing_that_must_move_others(self):
        shape = Shape.read("a b c d; a b; b c; c d; a")
        self.same(pairing(shape, ()), {"a": 3, "b": 0, "c": 1, "d": 2})
        shape = Shape.read("a b c d e f g h; a b; b c; c d; d e; e f; f g; g h; a")
        self.same(pairing(shape, ()), {"a": 7, **{name: at for at, name in enumerate("bcdefgh")}})
        self.same(crowded(shape.without_row(7), ()), tuple("abcdefgh"))

    def test_edges(self):
        self.same(pairing(Shape.read("x"), ()), None)
        self.same(crowded(Shape.read("x"), ()), ("x",))
        self.same([pairing(Shape.read("x"), ("x",)), crowded(Shape.read("x"), ("x",))], [{}, None])
        self.same(pairing(Shape.read("x; - | x"), ()), {"x": 0})
        self.same(pairing(Shape.read("x; -; x; x"), ()) in ({"x": 1}, {"x": 2}), True)
        self.same(pairing(Shape(EIGHT, []), EIGHT), {})
        self.same(crowded(Shape(EIGHT, []), EIGHT), None)
        self.same(pairing(Shape(EIGHT, [((), ())] * 8), ()), None)
        # More unread unknowns than rows.
        self.same(pairing(Shape(EIGHT, [(EIGHT, ())] * 7), ()), None)
        self.same(crowded(Shape(EIGHT, [(EIGHT, ())] * 7), ()), EIGHT)
        self.same(len(pairing(Shape(EIGHT, [(EIGHT, ())] * 7), ("x",))), 7)
        self.same(len(pairing(Shape(EIGHT, [((), EIGHT)] * 8), ())), 8)

    def test_an_unknown_of_a_crowded_set_does_not_follow(self):
        many = 0
        for shape, factors, readings in some_cases(200, 44):
            found = crowded(shape, readings)
            if found is not None:
                many += 1
                self.assertTrue(any(not follows_with(shape, factors, readings, name) for name in found))
            else:
                self.assertEqual(rank_with(shape, telling_factors(shape, readings), readings),
                                 len(unread(shape, readings)))
        self.assertGreater(many, 20)

    def test_all_follow_with_some_small_factors_exactly_if_there_is_a_pairing(self):
        for shape in shapes_over(("x", "y"), 2):
            for readings in all_sets(("x", "y")):
                told = any(
                    all(follows_with(shape, factors, readings, name) for name in "xy")
                    for factors in factors_over(shape, (-1, 0, 1))
                )
                self.assertIs(pairing(shape, readings) is not None, told)

    def test_with_a_pairing_nothing_follows_never(self):
        for shape, readings in cases(60, 45):
            if pairing(shape, readings) is not None:
                self.assertNotIn("never", kinds(shape, readings).values())

    def test_errors(self):
        for value in not_sets(EXAMPLE.unknowns):
            for call, more in [
                (pairing, ()), (crowded, ()), (check_pairing, ({},)), (check_crowded, ((),)), (telling_factors, ()),
                (spare_rows, ()),
            ]:
                self.assertIs(self.refused(BadSet, "value", value, call, EXAMPLE, value, *more), value)


class Point42(PromiseCase):
    RIGHT = {"x": 2, "y": 0, "z": 3}

    def test_keys_less_and_more(self):
        self.assertIs(check_pairing(EXAMPLE, (), self.RIGHT), True)
        for name in "xyz":
            less = {key: self.RIGHT[key] for key in self.RIGHT if key != name}
            self.assertIs(self.given(check_pairing, EXAMPLE, (), less), False)
            self.assertIs(check_pairing(EXAMPLE, (name,), less), True)
            self.assertIs(check_pairing(EXAMPLE, (name,), self.RIGHT), False)
            for other in NOT_UNKNOWNS:
                self.assertIs(self.given(check_pairing, EXAMPLE, (), {**less, other: 1}), False)
                self.assertIs(check_pairing(EXAMPLE, (), {**self.RIGHT, other: 1}), False)
                self.assertIs(check_pairing(EXAMPLE, (), {**self.RIGHT, other: None}), False)
        self.assertIs(check_pairing(EXAMPLE, (), {}), False)
        self.assertIs(check_pairing(EXAMPLE, ("x", "y", "z"), {}), True)

    def test_a_row_twice(self):
        self.assertIs(check_pairing(EXAMPLE, (), {"x": 0, "y": 0, "z": 3}), False)
        self.assertIs(check_pairing(EXAMPLE, (), {"x": 0, "y": 3, "z": 3}), False)
        self.assertIs(check_pairing(EXAMPLE, (), {"x": 0, "y": 3, "z": 1}), True)

    def test_any_values(self):
        for value in ANY_VALUES:
            for name in "xyz":
                pairs = {**self.RIGHT, name: value}
                wanted = type(value) is int and is_pairing(EXAMPLE, (), pairs)
                self.assertIs(self.given(check_pairing, EXAMPLE, (), pairs), wanted)
            self.assertIs(check_pairing(EXAMPLE, (), {name: value for name in "xyz"}), False)
        for value in [True, False, HUGE, -1, -4, 4, "0", (0,), [0]]:
            self.assertIs(check_pairing(Shape.read("x y; x; y"), (), {"x": 0, "y": value}), False)
            self.assertIs(check_pairing(Shape.read("x; x"), (), {"x": value}), False)
        self.assertIs(check_pairing(Shape.read("x y; x; y"), (), {"x": 0, "y": 1}), True)

    def test_the_order_of_the_keys_has_no_meaning(self):
        for keys in itertools.permutations("xyz"):
            self.assertIs(check_pairing(EXAMPLE, (), {key: self.RIGHT[key] for key in keys}), True)


class Point43(PromiseCase):
    def test_any_values(self):
        for value in [*ANY_VALUES, ["y", "z"], ("z", "y"), ("y", "y", "z"), ("y", "z", "z"), {"y": 1, "z": 1}, "yz"]:
            wanted = type(value) is tuple and value in all_sets(("x", "y", "z")) and is_crowded(FEW, (), value)
            self.assertIs(self.given(check_crowded, FEW, (), value), wanted)
        self.assertIs(check_crowded(FEW, (), ("y", "z")), True)
        self.assertIs(check_crowded(FEW, (), ["y", "z"]), False)
        self.assertIs(check_crowded(FEW, (), ("z", "y")), False)

    def test_the_empty_set_and_readings(self):
        for shape in edge_shapes():
            self.assertIs(check_crowded(shape, (), ()), False)
            self.assertIs(check_crowded(shape, shape.unknowns, ()), False)
            self.assertIs(check_crowded(shape, shape.unknowns, shape.unknowns), False)
        self.assertIs(check_crowded(FEW, ("y",), ("y", "z")), False)
        self.assertIs(check_crowded(Shape.read("x y"), ("x",), ("x",)), False)
        self.assertIs(check_crowded(Shape.read("x y"), ("x",), ("y",)), True)
        self.assertIs(check_crowded(Shape.read("x y"), ("x",), ("x", "y")), False)
        self.assertIs(check_crowded(Shape.read("x y"), (), ("x", "y")), True)

    def test_rows_of_perhaps_unknowns_count(self):
        self.assertIs(check_crowded(Shape.read("x y; - | x y"), (), ("x",)), False)
        self.assertIs(check_crowded(Shape.read("x y; - | x y"), (), ("x", "y")), True)
        self.assertIs(check_crowded(Shape.read("x y; - | x y; - | x"), (), ("x", "y")), False)


class Point45(PromiseCase):
    def test_all_unknowns_follow(self):
        for shape, readings in cases(150, 46):
            found = crowded(shape, readings)
            if found is not None:
                held = self.refused(NoPairing, "value", found, telling_factors, shape, readings)
                self.assertIs(check_crowded(shape, readings, held), True)
                continue
            factors = self.given(telling_factors, shape, readings)
            self.assertIs(type(factors), dict)
            self.assertIs(fits(shape, factors), True)
            names = unread(shape, readings)
            self.assertEqual(rank(matrix(shape, factors, names)), len(names))
            self.assertEqual(rank_with(shape, factors, readings), len(names))
            for name in shape.unknowns:
                self.assertIs(follows_with(shape, factors, readings, name), True)

    def test_edges(self):
        self.same(telling_factors(Shape.read("x"), ("x",)), {})
        self.same(telling_factors(Shape.read("x; -"), ("x",)), {})
        shape = Shape(EIGHT, [(EIGHT, ())] * 8)
        self.same(rank_with(shape, telling_factors(shape, ()), ()), 8)
        shape = Shape(EIGHT, [((), EIGHT)] * 8)
        self.same(rank_with(shape, telling_factors(shape, ()), ()), 8)

    def test_errors(self):
        held = self.refused(NoPairing, "value", ("y", "z"), telling_factors, FEW, ())
        self.assertIs(check_crowded(FEW, (), held), True)


class Point46(PromiseCase):
    def test_against_the_shape_without_each_row(self):
        for shape, readings in cases(100, 47):
            found = crowded(shape, readings)
            if found is not None:
                held = self.refused(NoPairing, "value", found, spare_rows, shape, readings)
                self.assertIs(check_crowded(shape, readings, held), True)
                continue
            sets = all_sets(tuple(unread(shape, readings)))
            wanted = [
                number for number in range(len(shape.rows))
                if not any(is_crowded(shape.without_row(number), readings, chosen) for chosen in sets)
            ]
            self.same(self.given(spare_rows, shape, readings), tuple(wanted))

    def test_edges(self):
        self.same(spare_rows(Shape.read("x"), ("x",)), ())
        self.same(spare_rows(Shape.read("x; x"), ()), ())
        self.same(spare_rows(Shape.read("x; x; x"), ()), (0, 1))
        self.same(spare_rows(Shape.read("x; -; x"), ()), (0,))
        self.same(spare_rows(Shape.read("x y; x; x y"), ()), ())
        self.same(spare_rows(Shape.read("x y; x; x y; - | x"), ()), (0, 2))
        self.same(spare_rows(Shape(EIGHT, [(EIGHT, ())] * 8), ()), ())
        self.same(spare_rows(Shape(EIGHT, [(EIGHT, ())] * 8), ("x",)), tuple(range(8)))
        self.same(spare_rows(Shape(EIGHT, [((), ())] * 8), EIGHT), tuple(range(8)))


class Point10(PromiseCase):
    def test_results_are_new(self):
        for call in (pairing, telling_factors):
            held = call(EXAMPLE, ())
            found = call(EXAMPLE, ())
            found.clear()
            self.same(call(EXAMPLE, ()), held)

    def test_always_the_same_for_equal_shapes(self):
        for shape, readings in cases(20, 48):
            other = Shape(tuple(reversed(shape.unknowns)), tuple(shape.rows))
            self.same(pairing(other, readings), pairing(shape, readings))
            self.same(crowded(other, readings), crowded(shape, readings))

    def test_by_name(self):
        self.same(pairing(readings=("z",), shape=FEW), {"x": 1, "y": 0})
        self.same(crowded(readings=(), shape=FEW), ("y", "z"))
        self.assertIs(check_pairing(pairs={"x": 1, "y": 0}, readings=("z",), shape=FEW), True)
        self.assertIs(check_crowded(value=("y", "z"), readings=(), shape=FEW), True)
        self.same(telling_factors(readings=(), shape=EXAMPLE), telling_factors(EXAMPLE, ()))
        self.same(spare_rows(readings=(), shape=EXAMPLE), (0, 1, 2, 3))

    def test_interface(self):
        wanted = {
            "pairing": ["shape", "readings"], "crowded": ["shape", "readings"],
            "check_pairing": ["shape", "readings", "pairs"], "check_crowded": ["shape", "readings", "value"],
            "telling_factors": ["shape", "readings"], "spare_rows": ["shape", "readings"],
        }
        for name, arguments in wanted.items():
            call = getattr(module, name)
            self.assertEqual(list(inspect.signature(call).parameters), arguments)
            self.assertEqual(call.__module__, "anyfactors.pairing")


if __name__ == "__main__":
    unittest.main()
