"""Points 4, 7 and 47 to 50: the fewest readings."""

import inspect
import random
import unittest

from anyfactors import fewest as module
from anyfactors.errors import BadSet, BadText, UnknownName
from anyfactors.fewest import all_least, enough, fewest, least_for, needless, slim
from anyfactors.shapes import Shape, all_sets
from checks import ANY_VALUES, PromiseCase
from plain import plain_kind, plain_reached
from samples import EIGHT, NOT_UNKNOWNS, edge_shapes, not_sets, shapes_over, some_shape


def example():
    return Shape.read("x y z; x y; y z; z | x")


def small_shapes():
    for names, most in [(("x",), 2), (("x", "y"), 3), (("x", "y", "z"), 2)]:
        yield from shapes_over(names, most)


def large_shapes(many, seed):
    chance = random.Random(seed)
    return edge_shapes() + [some_shape(chance) for _ in range(many)]


def is_enough(shape, readings):
    return plain_reached(shape, readings) == shape.unknowns


def least_ones(sets):
    """Those of the sets that contain no other one of them, in order (point 4)."""
    found = [one for one in sets if not any(set(other) < set(one) for other in sets)]
    return sorted(sorted(found), key=len)


class Example(PromiseCase):
    def test_example(self):
        shape = example()
        self.same([enough(shape, ()), fewest(shape), all_least(shape)], [False, ("x",), [("x",), ("y",), ("z",)]])
        self.same(
            [needless(shape, ("x", "z")), slim(shape, ("x", "z")), needless(shape, ("x",))],
            [("x", "z"), ("x",), ()],
        )
        self.same(
            [least_for(shape, "z", "always"), least_for(shape, "z", "sometimes"),
             least_for(Shape.read("x y; x"), "y", "always")],
            [[("x",), ("y",)], [()], []],
        )


class Points47To49(PromiseCase):
    def check(self, shape):
        sets = all_sets(shape.unknowns)
        found = [chosen for chosen in sets if is_enough(shape, chosen)]
        for chosen in sets:
            self.assertIs(self.given(enough, shape, chosen), chosen in found)
        first = self.given(fewest, shape)
        self.same(first, found[0])
        self.assertEqual(len(first), min(len(chosen) for chosen in found))
        self.same(self.given(all_least, shape), least_ones(found))
        self.assertIn(first, all_least(shape))

    def test_small_shapes(self):
        for shape in small_shapes():
            self.check(shape)

    def test_larger_shapes(self):
        for shape in large_shapes(25, 48):
            self.check(shape)

    def test_more_readings_stay_enough(self):
        chance = random.Random(47)
        for shape in large_shapes(60, 47):
            for readings in chance.sample(all_sets(shape.unknowns), 2):
                if enough(shape, readings):
                    for name in shape.unknowns:
                        self.assertIs(enough(shape, tuple(sorted({*readings, name}))), True)

    def test_edges(self):
        self.same([fewest(Shape.read("x")), all_least(Shape.read("x"))], [("x",), [("x",)]])
        self.same([fewest(Shape.read("x; x")), all_least(Shape.read("x; x"))], [(), [()]])
        self.same([fewest(Shape.read("x; - | x")), all_least(Shape.read("x; - | x"))], [("x",), [("x",)]])
        self.same([fewest(Shape(EIGHT, [])), all_least(Shape(EIGHT, []))], [EIGHT, [EIGHT]])
        self.same(all_least(Shape(EIGHT, [((), EIGHT)] * 8)), [EIGHT])
        self.same(all_least(Shape(EIGHT, [(EIGHT, ())] * 8)), all_sets(EIGHT)[-9:-1])
        self.same(fewest(Shape(EIGHT, [(EIGHT, ())] * 8)), EIGHT[:7])
        # The first set by its length comes before a longer one whose unknowns are earlier.
        shape = Shape.read("a b c; a b c; a b | c; c")
        self.same([fewest(shape), all_least(shape)], [("a",), [("a",), ("b",)]])
        shape = Shape.read("a b c; c; a b | c")
        self.same([fewest(shape), all_least(shape)], [("a",), [("a",), ("b",)]])
        shape = Shape.read("a b c d; a d; b d; c d; a b c")
        self.same([fewest(shape), all_least(shape)], [("a",), [("a",), ("b",), ("c",), ("d",)]])
        shape = Shape.read("a b c; a c; b c")
        self.same(all_least(shape), [("a",), ("b",), ("c",)])
        shape = Shape.read("a b c; b | c; a | c")
        self.same([fewest(shape), all_least(shape)], [("c",), [("c",)]])
        shape = Shape.read("a b c d; c | a b; d | a b; a | c d")
        self.same(all_least(shape), [("a", "b"), ("b", "c", "d")])

    def test_errors(self):
        for value in not_sets(("x", "y", "z")):
            self.assertIs(self.refused(BadSet, "value", value, enough, example(), value), value)


class Point49(PromiseCase):
    def check(self, shape):
        for name in shape.unknowns:
            others = all_sets(tuple(other for other in shape.unknowns if other != name))
            words = {chosen: plain_kind(shape, chosen, name) for chosen in others}
            always = [chosen for chosen in others if words[chosen] == "always"]
            sometimes = [chosen for chosen in others if words[chosen] != "never"]
            self.same(self.given(least_for, shape, name, "always"), least_ones(always))
            self.same(self.given(least_for, shape, name, "sometimes"), least_ones(sometimes))

    def test_small_shapes(self):
        for shape in small_shapes():
            self.check(shape)

    def test_larger_shapes(self):
        for shape in large_shapes(3, 49):
            self.check(shape)

    def test_edges(self):
        for kind in ("always", "sometimes"):
            self.same(least_for(Shape.read("x"), "x", kind), [])
            self.same(least_for(Shape.read("x; -"), "x", kind), [])
            self.same(least_for(Shape.read("x; x"), "x", kind), [()])
            self.same(least_for(Shape(EIGHT, [(EIGHT, ())]), "x", kind), [tuple(n for n in EIGHT if n != "x")])
        self.same(least_for(Shape.read("x; - | x"), "x", "always"), [])
        self.same(least_for(Shape.read("x; - | x"), "x", "sometimes"), [()])
        shape = Shape.read("w x y z; x y; x y; w y z")
        self.same(least_for(shape, "z", "sometimes"), [("w",)])
        self.same(least_for(shape, "z", "always"), [("w", "x"), ("w", "y")])

    def test_errors(self):
        shape = example()
        for name in NOT_UNKNOWNS:
            for kind in ["always", "sometimes", "never", ""]:
                self.assertIs(self.refused(UnknownName, "name", name, least_for, shape, name, kind), name)
        for kind in ["never", "", "Always", "always ", " sometimes", "alway", "kind", "x", "sometimes\n", "s", "a"]:
            for name in "xyz":
                self.assertIs(self.refused(BadText, "text", kind, least_for, shape, name, kind), kind)
        for kind in ANY_VALUES:
            self.refused(BadText, "text", kind, least_for, shape, "x", kind)


class Point50(PromiseCase):
    def plain_slim(self, shape, readings):
        left = list(readings)
        for name in sorted(readings, reverse=True):
            rest = [other for other in left if other != name]
            if is_enough(shape, rest):
                left = rest
        return tuple(left)

    def check(self, shape, readings):
        wanted = tuple(
            name for name in readings if is_enough(shape, [other for other in readings if other != name])
        )
        found = self.given(needless, shape, readings)
        self.same(found, wanted)
        left = self.given(slim, shape, readings)
        if not is_enough(shape, readings):
            self.same(found, ())
            self.same(left, readings)
        else:
            self.same(left, self.plain_slim(shape, readings))
            self.assertIs(enough(shape, left), True)
            self.same(needless(shape, left), ())

    def test_small_shapes(self):
        for shape in small_shapes():
            for readings in all_sets(shape.unknowns):
                self.check(shape, readings)

    def test_larger_shapes(self):
        chance = random.Random(50)
        for shape in large_shapes(60, 50):
            for readings in [(), shape.unknowns, *chance.sample(all_sets(shape.unknowns)[-40:], 2)]:
                self.check(shape, readings)

    def test_edges(self):
        self.same([needless(Shape.read("x"), ()), slim(Shape.read("x"), ())], [(), ()])
        self.same([needless(Shape.read("x"), ("x",)), slim(Shape.read("x"), ("x",))], [(), ("x",)])
        self.same([needless(Shape.read("x; x"), ("x",)), slim(Shape.read("x; x"), ("x",))], [("x",), ()])
        self.same([needless(Shape(EIGHT, []), EIGHT), slim(Shape(EIGHT, []), EIGHT)], [(), EIGHT])
        shape = Shape(EIGHT, [(EIGHT, ())] * 8)
        self.same([needless(shape, EIGHT), slim(shape, EIGHT)], [EIGHT, EIGHT[:7]])
        self.same([needless(shape, EIGHT[:6]), slim(shape, EIGHT[:6])], [(), EIGHT[:6]])
        # The last one that is needless goes first, even if that keeps more of the earlier ones.
        shape = Shape.read("a b c; a b | c; c | a b; b | a")
        self.same([needless(shape, ("a", "b", "c")), slim(shape, ("a", "b", "c"))], [("a", "b", "c"), ("a",)])
        shape = Shape.read("a b c; a | c; b | c")
        self.same([needless(shape, ("a", "b", "c")), slim(shape, ("a", "b", "c"))], [("a", "b"), ("c",)])
        shape = Shape.read("a b c; c | a b; a | c; b | c")
        self.same([needless(shape, ("a", "b", "c")), slim(shape, ("a", "b", "c"))], [("a", "b", "c"), ("a", "b")])

    def test_errors(self):
        for value in not_sets(("x", "y", "z")):
            for call in (needless, slim):
                self.assertIs(self.refused(BadSet, "value", value, call, example(), value), value)


class Point10(PromiseCase):
    def test_results_are_new(self):
        shape = example()
        found = all_least(shape)
        found.clear()
        self.same(all_least(shape), [("x",), ("y",), ("z",)])
        found = least_for(shape, "z", "always")
        found.append(())
        self.same(least_for(shape, "z", "always"), [("x",), ("y",)])

    def test_by_name(self):
        shape = example()
        self.assertIs(enough(readings=("x",), shape=shape), True)
        self.same(fewest(shape=shape), ("x",))
        self.same(all_least(shape=shape), [("x",), ("y",), ("z",)])
        self.same(least_for(kind="always", name="z", shape=shape), [("x",), ("y",)])
        self.same(needless(readings=("x", "z"), shape=shape), ("x", "z"))
        self.same(slim(readings=("x", "z"), shape=shape), ("x",))

    def test_interface(self):
        wanted = {
            "enough": ["shape", "readings"], "fewest": ["shape"], "needless": ["shape", "readings"],
            "slim": ["shape", "readings"], "all_least": ["shape"], "least_for": ["shape", "name", "kind"],
        }
        for name, arguments in wanted.items():
            call = getattr(module, name)
            self.assertEqual(list(inspect.signature(call).parameters), arguments)
            self.assertEqual(call.__module__, "anyfactors.fewest")


if __name__ == "__main__":
    unittest.main()
