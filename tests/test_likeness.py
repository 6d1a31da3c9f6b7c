"""Points 7 and 56 to 60: shapes held against one another."""

import inspect
import random
import unittest

from anyfactors import likeness as module
from anyfactors.errors import BadNumber, UnknownName, UnlikeUnknowns
from anyfactors.kinds import kinds
from anyfactors.likeness import alike, fixed_places, kind_table, lean, loosened, needless_rows, parting, stronger
from anyfactors.shapes import Shape, all_sets
from checks import ANY_VALUES, HUGE, PromiseCase
from plain import ORDER, plain_kinds
from samples import EIGHT, NOT_UNKNOWNS, edge_shapes, rows_over, shapes_over, some_shape


def plain_table(shape):
    return {readings: plain_kinds(shape, readings) for readings in all_sets(shape.unknowns)}


def pairs_of_shapes():
    """Pairs of small shapes with the same unknowns."""
    chance = random.Random(56)
    small = list(shapes_over(("x", "y"), 2))
    yield from ((one, other) for one in small for other in small)
    larger = list(shapes_over(("x", "y", "z"), 2))
    for _ in range(400):
        yield chance.choice(larger), chance.choice(larger)


def loose_shapes(many, seed, most=4):
    """Drawn shapes of few unknowns, in which some rows are needless and some places fixed."""
    chance = random.Random(seed)
    for _ in range(many):
        names = EIGHT[:chance.randint(1, 4)]
        yield some_shape(chance, names, most)


class Example(PromiseCase):
    def test_example(self):
        one = Shape.read("x y; x y; x")
        other = Shape.read("x y; x; y")
        self.same(
            [alike(one, other), parting(one, Shape.read("x y; x y")), stronger(one, Shape.read("x y; x"))],
            [True, ((), "x"), True],
        )
        self.same(
            [needless_rows(one), str(lean(Shape.read("x y; x; y; x y"))), kind_table(Shape.read("x; -"))],
            [[], "x y; x; y", {(): {"x": "never"}, ("x",): {"x": "always"}}],
        )
        self.same(
            [str(loosened(one, 1, "x")), fixed_places(Shape.read("x y; x; y | x"))],
            ["x y; x y; - | x", [(1, "x")]],
        )


class Points56And57(PromiseCase):
    def check(self, one, other, tables):
        first, second = tables[str(one)], tables[str(other)]
        same = first == second
        self.assertIs(alike(one, other), same)
        places = [
            (readings, name) for readings in all_sets(one.unknowns) for name in one.unknowns
            if first[readings][name] != second[readings][name]
        ]
        self.same(parting(one, other), places[0] if places else None)
        later = any(
            ORDER.index(first[readings][name]) > ORDER.index(second[readings][name]) for readings, name in places
        )
        self.assertIs(stronger(one, other), not later)
        self.assertIs(same, stronger(one, other) and stronger(other, one))

    def test_small_shapes(self):
        tables = {}
        for one, other in pairs_of_shapes():
            for shape in (one, other):
                if str(shape) not in tables:
                    tables[str(shape)] = plain_table(shape)
            self.check(one, other, tables)

    def test_larger_shapes(self):
        chance = random.Random(57)
        for _ in range(6):
            names = EIGHT[:chance.randint(5, 8)]
            one = some_shape(chance, names, 7)
            tables = {str(one): plain_table(one)}
            number = chance.randrange(len(one.rows) + 1)
            others = [one.with_row((), ()), one.with_row(*random.Random(number).choice(list(rows_over(names[:5]))))]
            others += [one.without_row(number)] if number < len(one.rows) else []
            for other in others:
                tables[str(other)] = plain_table(other)
                self.check(one, other, tables)
                self.check(other, one, tables)

    def test_a_shape_with_one_more_row_is_stronger(self):
        chance = random.Random(58)
        for shape in [shape for shape in edge_shapes() if len(shape.rows) < 8] + list(loose_shapes(100, 58)):
            row = chance.choice(list(rows_over(shape.unknowns[:6])))
            self.assertIs(stronger(shape.with_row(*row), shape), True)

    def test_the_order_of_the_rows_has_no_meaning(self):
        chance = random.Random(59)
        for shape in edge_shapes() + list(loose_shapes(40, 59)):
            other = Shape(shape.unknowns, chance.sample(list(shape.rows), len(shape.rows)))
            self.assertIs(alike(shape, other), True)
            self.assertIs(parting(shape, other), None)

    def test_the_first_readings_and_the_first_unknown(self):
        # Most of these are different for two readings alone, and there for one unknown alone.
        more = "; - | a b c; - | a b c"
        one = Shape.read("a b c; - | a b c" + more)
        self.same(parting(one, Shape.read("a b c; a | b c" + more)), (("b", "c"), "a"))
        self.same(parting(one, Shape.read("a b c; b | a c" + more)), (("a", "c"), "b"))
        self.same(parting(Shape.read("a b c; c | a b" + more), one), (("a", "b"), "c"))
        self.same(parting(one, Shape.read("a b c; a b | c" + more)), (("a", "c"), "b"))
        self.same(parting(one, Shape.read("a b c; c" + more)), ((), "c"))
        self.same(parting(Shape.read("a b c; - | a b c"), Shape.read("a b c; a | b c")), ((), "b"))
        self.same(parting(Shape.read("a b c; - | a b c"), Shape.read("a b c; - | b c")), ((), "a"))

    def test_edges(self):
        for shape in edge_shapes():
            self.assertIs(alike(shape, shape), True)
            self.assertIs(stronger(shape, shape), True)
            self.assertIs(parting(shape, shape), None)
        self.assertIs(alike(Shape.read("x"), Shape.read("x; -")), True)
        self.assertIs(alike(Shape.read("x; x"), Shape.read("x; x; x")), True)
        self.same(parting(Shape.read("x; x"), Shape.read("x; - | x")), ((), "x"))
        self.same(parting(Shape.read("x"), Shape.read("x; - | x")), ((), "x"))
        self.assertIs(stronger(Shape.read("x; - | x"), Shape.read("x; x")), False)
        self.assertIs(stronger(Shape.read("x; x"), Shape.read("x; - | x")), True)
        all_rows = Shape(EIGHT, [(EIGHT, ())] * 8)
        self.same(parting(all_rows, Shape(EIGHT, [])), ((), EIGHT[0]))
        self.assertIs(stronger(all_rows, Shape(EIGHT, [])), True)
        self.assertIs(stronger(Shape(EIGHT, []), all_rows), False)
        self.same(parting(all_rows, Shape(EIGHT, [((), EIGHT)] * 8)), (EIGHT[:7], EIGHT[7]))
        # Neither is stronger than the other.
        one, other = Shape.read("x y; x"), Shape.read("x y; y")
        self.same([stronger(one, other), stronger(other, one), parting(one, other)], [False, False, ((), "x")])

    def test_errors(self):
        one = Shape.read("x y; x y")
        for text in ["x", "y", "x y z", "w x", "x z; x z", "a b c d e f g h"]:
            other = Shape.read(text)
            for call in (alike, parting, stronger):
                held = self.refused(UnlikeUnknowns, "names", other.unknowns, call, one, other)
                self.same(held, other.unknowns)
                self.refused(UnlikeUnknowns, "names", ("x", "y"), call, other, one)


class Point58(PromiseCase):
    def without(self, shape, number):
        return Shape(shape.unknowns, shape.rows[:number] + shape.rows[number + 1:])

    def plain_needless(self, shape):
        table = plain_table(shape)
        return [number for number in range(len(shape.rows)) if plain_table(self.without(shape, number)) == table]

    def plain_lean(self, shape):
        for number in range(len(shape.rows) - 1, -1, -1):
            if number in self.plain_needless(shape):
                shape = self.without(shape, number)
        return shape

    def check(self, shape):
        found = self.given(needless_rows, shape)
        self.same(found, self.plain_needless(shape))
        left = lean(shape)
        self.assertIs(type(left), Shape)
        self.same(str(left), str(self.plain_lean(shape)))
        self.assertIs(alike(shape, left), True)
        self.same(needless_rows(left), [])

    def test_small_shapes(self):
        for names, most in [(("x",), 3), (("x", "y"), 3)]:
            for shape in shapes_over(names, most):
                self.check(shape)

    def test_drawn_shapes(self):
        for shape in loose_shapes(40, 60):
            self.check(shape)

    def test_large_shapes(self):
        for shape in edge_shapes():
            less = lean(shape)
            self.assertIs(alike(shape, less), True)
            self.same(needless_rows(less), [])
            for number in needless_rows(shape):
                self.assertIs(alike(shape, shape.without_row(number)), True)

    def test_edges(self):
        self.same([needless_rows(Shape.read("x")), str(lean(Shape.read("x")))], [[], "x"])
        self.same([needless_rows(Shape.read("x; -; -")), str(lean(Shape.read("x; -; -")))], [[0, 1], "x"])
        self.same([needless_rows(Shape.read("x; x; x")), str(lean(Shape.read("x; x; x")))], [[0, 1], "x; x"])
        self.same(needless_rows(Shape.read("x; - | x; x")), [0])
        # From the last row on: the first one of two that can stand for one another stays.
        self.same(str(lean(Shape.read("x y; x y; x; y; -"))), "x y; x y; x")
        self.same(str(lean(Shape.read("x y; y; x; x y"))), "x y; y; x")
        self.same(str(lean(Shape(EIGHT, [((), ())] * 8))), " ".join(EIGHT))
        self.same(needless_rows(Shape(EIGHT, [((), ())] * 8)), list(range(8)))
        self.same(needless_rows(Shape(EIGHT, [(EIGHT, ())] * 8)), list(range(8)))


class Point59(PromiseCase):
    def check(self, shape):
        table = self.given(kind_table, shape)
        self.assertIs(type(table), dict)
        self.same(sorted(table), sorted(all_sets(shape.unknowns)))
        for readings in table:
            self.same(table[readings], kinds(shape, readings))
            self.same(list(table[readings]), list(shape.unknowns))

    def test_small_shapes(self):
        for names, most in [(("x",), 3), (("x", "y"), 3), (("x", "y", "z"), 2)]:
            for shape in shapes_over(names, most):
                self.check(shape)
                self.same(kind_table(shape), plain_table(shape))

    def test_larger_shapes(self):
        chance = random.Random(61)
        for shape in edge_shapes() + [some_shape(chance) for _ in range(12)]:
            self.check(shape)


class Point60(PromiseCase):
    def loose(self, shape, number, name):
        sure, perhaps = shape.rows[number]
        row = (tuple(item for item in sure if item != name), tuple(sorted([*perhaps, name])))
        return Shape(shape.unknowns, [row if at == number else other for at, other in enumerate(shape.rows)])

    def test_loosened(self):
        for shape in edge_shapes() + list(loose_shapes(60, 62)):
            before = str(shape)
            for number, (sure, perhaps) in enumerate(shape.rows):
                for name in shape.unknowns:
                    if name in sure:
                        found = loosened(shape, number, name)
                        self.assertIs(type(found), Shape)
                        self.same(str(found), str(self.loose(shape, number, name)))
                    else:
                        self.refused(UnknownName, "name", name, loosened, shape, number, name)
            self.same(str(shape), before)

    def test_loosened_in_order(self):
        shape = Shape.read("a b c d; b d | a c; a b c d")
        self.same(str(loosened(shape, 0, "b")), "a b c d; d | a b c; a b c d")
        self.same(str(loosened(shape, 0, "d")), "a b c d; b | a c d; a b c d")
        self.same(str(loosened(shape, 1, "a")), "a b c d; b d | a c; b c d | a")
        self.same(str(loosened(Shape.read("x; x"), 0, "x")), "x; - | x")

    def test_errors(self):
        shape = Shape.read("x y z; x y; y | x")
        for value in [*ANY_VALUES, 3, -2, HUGE, True, False, "0", "1", (0,), [1]]:
            if not (type(value) is int and value in (0, 1)):
                for name in ["x", "q", "z"]:
                    self.assertIs(self.refused(BadNumber, "value", value, loosened, shape, value, name), value)
        for name in NOT_UNKNOWNS:
            for number in (0, 1):
                self.assertIs(self.refused(UnknownName, "name", name, loosened, shape, number, name), name)
        for number, name in [(0, "z"), (1, "x"), (1, "z")]:
            self.refused(UnknownName, "name", name, loosened, shape, number, name)
        for number in (0, 1):
            self.refused(BadNumber, "value", number, loosened, Shape.read("x"), number, "x")

    def plain_fixed(self, shape):
        table = plain_table(shape)
        found = []
        for number, (sure, perhaps) in enumerate(shape.rows):
            for name in perhaps:
                row = (tuple(sorted([*sure, name])), tuple(item for item in perhaps if item != name))
                rows = [row if at == number else other for at, other in enumerate(shape.rows)]
                if plain_table(Shape(shape.unknowns, rows)) == table:
                    found.append((number, name))
        return found

    def test_fixed_places(self):
        for names, most in [(("x",), 3), (("x", "y"), 2)]:
            for shape in shapes_over(names, most):
                self.same(self.given(fixed_places, shape), self.plain_fixed(shape))
        some = 0
        for shape in loose_shapes(40, 63):
            found = self.given(fixed_places, shape)
            self.same(found, self.plain_fixed(shape))
            some += bool(found)
        self.assertGreater(some, 5)

    def test_fixed_places_of_large_shapes(self):
        for shape in edge_shapes():
            for number, name in fixed_places(shape):
                self.assertIn(name, shape.rows[number][1])
                sure, perhaps = shape.rows[number]
                row = (tuple(sorted([*sure, name])), tuple(item for item in perhaps if item != name))
                rows = [row if at == number else other for at, other in enumerate(shape.rows)]
                self.assertIs(alike(shape, Shape(shape.unknowns, rows)), True)

    def test_edges(self):
        self.same(fixed_places(Shape.read("x")), [])
        self.same(fixed_places(Shape.read("x; x")), [])
        self.same(fixed_places(Shape.read("x; - | x")), [])
        self.same(fixed_places(Shape.read("x; x; - | x")), [(1, "x")])
        self.same(fixed_places(Shape(EIGHT, [((), EIGHT)] * 8)), [])
        self.same(fixed_places(Shape.read("x y; x; y; - | x y; x y")), [(2, "x"), (2, "y")])


class Point10(PromiseCase):
    def test_results_are_new(self):
        shape = Shape.read("x y; x; y | x; -")
        for call in (needless_rows, kind_table, fixed_places):
            held = call(shape)
            found = call(shape)
            for inner in found.values() if isinstance(found, dict) else []:
                inner.clear()
            found.clear()
            self.same(call(shape), held)

    def test_by_name(self):
        one, other = Shape.read("x y; x y; x"), Shape.read("x y; x; y")
        self.assertIs(alike(other=other, one=one), True)
        self.assertIs(parting(other=other, one=one), None)
        self.assertIs(stronger(other=Shape.read("x y"), one=one), True)
        self.assertIs(stronger(one=Shape.read("x y"), other=one), False)
        self.same(needless_rows(shape=one), [])
        self.same(str(lean(shape=one)), str(one))
        self.same(kind_table(shape=Shape.read("x")), {(): {"x": "never"}, ("x",): {"x": "always"}})
        self.same(str(loosened(name="x", number=1, shape=one)), "x y; x y; - | x")
        self.same(fixed_places(shape=one), [])

    def test_interface(self):
        two = ["one", "other"]
        wanted = {
            "alike": two, "parting": two, "stronger": two, "needless_rows": ["shape"], "lean": ["shape"],
            "kind_table": ["shape"], "loosened": ["shape", "number", "name"], "fixed_places": ["shape"],
        }
        for name, arguments in wanted.items():
            call = getattr(module, name)
            self.assertEqual(list(inspect.signature(call).parameters), arguments)
            self.assertEqual(call.__module__, "anyfactors.likeness")


if __name__ == "__main__":
    unittest.main()
