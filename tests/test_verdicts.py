"""Points 9, 10 and 61 to 63: verdicts."""

import copy
import inspect
import random
import unittest

from anyfactors import verdicts as module
from anyfactors.errors import BadSet
from anyfactors.hiding import check_hiding, hiding
from anyfactors.kinds import check_mixing, check_strikes, kinds, mixing
from anyfactors.shapes import Shape, all_sets
from anyfactors.steps import check_steps, steps_to
from anyfactors.verdicts import Verdict, check_verdict, judge
from checks import ANY_VALUES, PromiseCase
from samples import EIGHT, NOT_INTEGERS, edge_shapes, not_sets, shapes_over, some_shape, wrong_factors

WORDS = ["always", "sometimes", "never"]


def example():
    return Shape.read("w x y z; x y; x y; w y z")


def all_kinds():
    """A shape in which, without readings, unknowns of all three kinds stand."""
    return Shape.read("a b c d e f g; a; a b; c d | e; c d | e; f g")


def cases(many, seed):
    for names, most in [(("x",), 2), (("x", "y"), 2)]:
        for shape in shapes_over(names, most):
            for readings in all_sets(names):
                yield shape, readings
    chance = random.Random(seed)
    for shape in edge_shapes() + [some_shape(chance) for _ in range(many)]:
        for readings in [(), shape.unknowns, *chance.sample(all_sets(shape.unknowns), 2)]:
            yield shape, readings


def with_paper(verdict, name, paper):
    return Verdict(verdict.kinds, {**verdict.papers, name: paper})


def with_kind(verdict, name, kind):
    return Verdict({**verdict.kinds, name: kind}, verdict.papers)


def without_key(table, name):
    return {key: table[key] for key in table if key != name}


class Example(PromiseCase):
    def test_example(self):
        shape = example()
        verdict = judge(shape, ("x",))
        self.same(
            [verdict.kinds, verdict.papers["z"], check_verdict(shape, ("x",), verdict)],
            [{"w": "never", "x": "always", "y": "always", "z": "never"}, [(2, "w")], True],
        )
        changed = Verdict({**verdict.kinds, "y": "sometimes"}, verdict.papers)
        self.assertIs(check_verdict(shape, ("x",), changed), False)


class Points9And61(PromiseCase):
    def check(self, shape, readings):
        verdict = self.given(judge, shape, readings)
        self.assertIs(type(verdict), Verdict)
        self.same(verdict.kinds, kinds(shape, readings))
        papers = verdict.papers
        self.same(sorted(papers), list(shape.unknowns))
        for name, kind in verdict.kinds.items():
            paper = papers[name]
            if kind == "always":
                self.same(paper, steps_to(shape, readings, name))
                self.assertIs(check_steps(shape, readings, paper), True)
                self.assertTrue(name in readings or paper[-1][1] == name)
            elif kind == "sometimes":
                self.same(paper, (hiding(shape, readings, name), mixing(shape, readings, name)))
                self.assertIs(check_hiding(shape, readings, name, *paper[0]), True)
                self.assertIs(check_mixing(shape, readings, name, *paper[1]), True)
            else:
                self.assertIs(type(paper), list)
                self.assertIs(check_strikes(shape, readings, name, paper), True)
        self.assertIs(check_verdict(shape, readings, verdict), True)

    def test_small_and_large_shapes(self):
        for shape, readings in cases(80, 61):
            self.check(shape, readings)

    def test_edges(self):
        found = judge(Shape.read("x"), ())
        self.same([found.kinds, found.papers], [{"x": "never"}, {"x": []}])
        found = judge(Shape.read("x"), ("x",))
        self.same([found.kinds, found.papers], [{"x": "always"}, {"x": []}])
        found = judge(Shape.read("x; -; x"), ())
        self.same([found.kinds, found.papers], [{"x": "always"}, {"x": [(1, "x")]}])
        found = judge(Shape(EIGHT, []), EIGHT)
        self.same(found.papers, {name: [] for name in EIGHT})

    def test_errors(self):
        for value in not_sets(("w", "x", "y", "z")):
            self.assertIs(self.refused(BadSet, "value", value, judge, example(), value), value)


class Point62(PromiseCase):
    """Verdicts that are refused because of one thing, and others that are accepted."""

    def refuse(self, shape, readings, verdict):
        before = (verdict.kinds, verdict.papers)
        self.assertIs(self.given(check_verdict, shape, readings, verdict), False)
        self.same((verdict.kinds, verdict.papers), before)

    def test_kinds_and_papers_of_any_value(self):
        shape = all_kinds()
        verdict = judge(shape, ())
        for value in [*ANY_VALUES, [verdict.kinds], (verdict.kinds,), list(verdict.kinds.items()), "abcdefg"]:
            self.refuse(shape, (), Verdict(value, verdict.papers))
            self.refuse(shape, (), Verdict(verdict.kinds, value))
            self.refuse(shape, (), Verdict(value, value))
        self.assertIs(check_verdict(Shape.read("x"), (), Verdict({"x": "never"}, {"x": []})), True)

    def test_a_key_less_and_a_key_more(self):
        shape = all_kinds()
        verdict = judge(shape, ())
        kinds_, papers = verdict.kinds, verdict.papers
        for name in shape.unknowns:
            self.refuse(shape, (), Verdict(without_key(kinds_, name), papers))
            self.refuse(shape, (), Verdict(kinds_, without_key(papers, name)))
            self.refuse(shape, (), Verdict(without_key(kinds_, name), without_key(papers, name)))
        for name in ["q", "", "A", "a ", "aa"]:
            for kind in WORDS:
                self.refuse(shape, (), Verdict({**kinds_, name: kind}, papers))
                self.refuse(shape, (), Verdict({**without_key(kinds_, "a"), name: kind}, papers))
            self.refuse(shape, (), Verdict(kinds_, {**papers, name: []}))
            self.refuse(shape, (), Verdict(kinds_, {**without_key(papers, "a"), name: papers["a"]}))
            self.refuse(shape, (), Verdict({**kinds_, name: "never"}, {**papers, name: []}))

    def test_another_kind(self):
        for shape, readings in [*cases(15, 62), (all_kinds(), ()), (all_kinds(), ("f",))]:
            verdict = judge(shape, readings)
            for name in shape.unknowns:
                for kind in [*WORDS, "Always", "always ", ""]:
                    if kind != verdict.kinds[name]:
                        self.refuse(shape, readings, with_kind(verdict, name, kind))

    def test_kinds_of_any_value(self):
        shape = all_kinds()
        verdict = judge(shape, ())
        for name in shape.unknowns:
            for value in ANY_VALUES:
                self.refuse(shape, (), with_kind(verdict, name, value))

    def test_papers_of_any_value(self):
        shape = all_kinds()
        verdict = judge(shape, ())
        self.same(verdict.kinds, {
            "a": "always", "b": "always", "c": "sometimes", "d": "sometimes", "e": "sometimes", "f": "never",
            "g": "never",
        })
        for value in ANY_VALUES:
            for name in shape.unknowns:
                self.refuse(shape, (), with_paper(verdict, name, value))
        verdict = judge(shape, ("f",))
        for value in ANY_VALUES:
            found = check_verdict(shape, ("f",), with_paper(verdict, "f", value))
            self.assertIs(found, type(value) in (list, tuple) and not value)

    def test_papers_exchanged(self):
        shape = all_kinds()
        verdict = judge(shape, ())
        papers = verdict.papers
        for one in shape.unknowns:
            for other in shape.unknowns:
                if verdict.kinds[one] != verdict.kinds[other]:
                    exchanged = Verdict(verdict.kinds, {**papers, one: papers[other], other: papers[one]})
                    self.refuse(shape, (), exchanged)
                    self.refuse(shape, (), with_paper(verdict, one, papers[other]))

    def test_steps(self):
        shape = Shape.read("a b c d; a; a b; b c; c d")
        verdict = judge(shape, ())
        steps = [(0, "a"), (1, "b"), (2, "c"), (3, "d")]
        self.same(verdict.papers["d"], steps)
        for name in "abcd":
            # Any valid steps with the unknown among them will do, as a list and as a tuple.
            self.assertIs(check_verdict(shape, (), with_paper(verdict, name, steps)), True)
            self.assertIs(check_verdict(shape, (), with_paper(verdict, name, tuple(steps))), True)
        for at in range(3):
            self.refuse(shape, (), with_paper(verdict, "d", steps[:at] + steps[at + 1:]))
            self.refuse(shape, (), with_paper(verdict, "d", steps + [steps[at]]))
            self.refuse(shape, (), with_paper(verdict, "d", steps[:at + 1]))
            self.refuse(shape, (), with_paper(verdict, "abc"[at], []))
        self.refuse(shape, (), with_paper(verdict, "a", [(False, "a")]))
        self.refuse(shape, (), with_paper(verdict, "b", [(0, "a"), (True, "b")]))
        self.refuse(shape, (), with_paper(verdict, "b", [[0, "a"], [1, "b"]]))
        self.refuse(shape, (), with_paper(verdict, "a", {0: "a"}))

    def test_readings(self):
        shape = Shape.read("a b c; a; a b; - | c")
        verdict = judge(shape, ("a",))
        self.same(verdict.papers["a"], [])
        self.assertIs(check_verdict(shape, ("a",), with_paper(verdict, "a", ())), True)
        # For a reading any valid steps will do; a reading in the steps makes them wrong.
        self.assertIs(check_verdict(shape, ("a",), with_paper(verdict, "a", [(1, "b")])), True)
        self.refuse(shape, ("a",), with_paper(verdict, "a", [(0, "a")]))
        for kind, paper in [("never", []), ("never", ()), ("sometimes", judge(shape, ()).papers["c"])]:
            self.refuse(shape, ("a",), with_kind(with_paper(verdict, "a", paper), "a", kind))
        self.refuse(shape, (), verdict)
        self.refuse(shape, ("a", "b"), with_paper(verdict, "a", [(1, "b")]))

    def test_strikes(self):
        shape = Shape.read("a b c d; a b; b c; c d")
        verdict = judge(shape, ())
        self.same(verdict.papers["d"], [(0, "a"), (1, "b"), (2, "c")])
        strikes = verdict.papers["d"]
        self.assertIs(check_verdict(shape, (), with_paper(verdict, "d", tuple(strikes))), True)
        for at in range(3):
            self.refuse(shape, (), with_paper(verdict, "d", strikes[:at] + strikes[at + 1:]))
            self.refuse(shape, (), with_paper(verdict, "d", strikes + [strikes[at]]))
            self.refuse(shape, (), with_paper(verdict, "d", [list(strike) for strike in strikes]))
        self.refuse(shape, (), with_paper(verdict, "d", [(False, "a"), (True, "b"), (2, "c")]))
        self.refuse(shape, (), with_paper(verdict, "d", {}))
        self.refuse(shape, (), with_paper(verdict, "d", ""))
        # Readings do not strike.
        self.refuse(shape, ("a",), verdict)

    def test_hiding_and_mixing(self):
        shape = example()
        verdict = judge(shape, ())
        hidden, mixed = verdict.papers["x"]
        self.same([verdict.kinds["x"], type(hidden), type(mixed)], ["sometimes", tuple, tuple])
        right = [
            (hidden, (mixed[0], tuple(mixed[1]))), (hidden, (mixed[0], [5, 5, 0])),
            ((hidden[0], {name: 7 * value for name, value in hidden[1].items()}), mixed),
        ]
        for paper in right:
            self.assertIs(check_verdict(shape, (), with_paper(verdict, "x", paper)), True)
        wrong = [
            [hidden, mixed], (hidden,), (mixed,), (mixed, hidden), (hidden, hidden), (mixed, mixed), (),
            (hidden, mixed, ()),
            (list(hidden), mixed), (hidden, list(mixed)), ((*hidden, 1), mixed), (hidden, (*mixed, 1)),
            (hidden[:1], mixed), (hidden, mixed[:1]), {"hiding": hidden, "mixing": mixed},
            (hidden, (mixed[0], [True, True, False])), (hidden, (mixed[0], [1, 1])), (hidden, (mixed[0], [1, 1, 0, 0])),
            (hidden, (mixed[0], [0, 0, 0])), (hidden, (mixed[0], {0: 1, 1: 1, 2: 0})), (hidden, (mixed[0], "110")),
            ((hidden[0], {**hidden[1], "x": 2}), mixed), ((hidden[0], {**hidden[1], "q": 0}), mixed),
            ((hidden[0], without_key(hidden[1], "w")), mixed), ((hidden[0], list(hidden[1].items())), mixed),
            ((hidden[0], {name: 0 for name in "wxyz"}), mixed), ((hidden[0], {name: True for name in "wxyz"}), mixed),
            ((hidden[1], hidden[0]), mixed), (hidden, (mixed[1], mixed[0])),
            ((hidden[0], mixed[1]), (mixed[0], hidden[1])),
        ]
        for paper in wrong:
            self.refuse(shape, (), with_paper(verdict, "x", paper))

    def test_hiding_and_mixing_of_any_value(self):
        shape = example()
        verdict = judge(shape, ())
        hidden, mixed = verdict.papers["x"]
        for value in ANY_VALUES:
            for paper in [
                (value, mixed), (hidden, value), ((value, hidden[1]), mixed), ((hidden[0], value), mixed),
                (hidden, (value, mixed[1])), (hidden, (mixed[0], value)), (value, value), ((value, value), mixed),
            ]:
                self.refuse(shape, (), with_paper(verdict, "x", paper))
        for wrong in wrong_factors(shape, hidden[0])[::5]:
            self.refuse(shape, (), with_paper(verdict, "x", ((wrong, hidden[1]), mixed)))
        for wrong in wrong_factors(shape, mixed[0])[::5]:
            self.refuse(shape, (), with_paper(verdict, "x", (hidden, (wrong, mixed[1]))))
        for value in NOT_INTEGERS:
            self.refuse(shape, (), with_paper(verdict, "x", (hidden, (mixed[0], [1, value, 0]))))
            self.refuse(shape, (), with_paper(verdict, "x", ((hidden[0], {**hidden[1], "x": value}), mixed)))

    def test_values_without_rows(self):
        shape = Shape.read("x y")
        paper = (({}, {"x": 1, "y": 0}), ({}, []))
        self.refuse(shape, (), Verdict({"x": "sometimes", "y": "never"}, {"x": paper, "y": []}))
        self.assertIs(check_verdict(shape, (), Verdict({"x": "never", "y": "never"}, {"x": (), "y": []})), True)

    def test_the_order_of_the_keys_has_no_meaning(self):
        shape = all_kinds()
        verdict = judge(shape, ())
        for seed in range(10):
            keys = random.Random(seed).sample(shape.unknowns, 7)
            kinds_ = {key: verdict.kinds[key] for key in keys}
            papers = {key: verdict.papers[key] for key in reversed(keys)}
            self.assertIs(check_verdict(shape, (), Verdict(kinds_, papers)), True)

    def test_other_shapes_and_readings(self):
        shape = example()
        verdict = judge(shape, ("x",))
        self.assertIs(check_verdict(shape, ("x",), verdict), True)
        for readings in [(), ("y",), ("x", "y"), ("w",), shape.unknowns]:
            self.refuse(shape, readings, verdict)
        self.refuse(shape.without(("w",)), ("x",), verdict)
        self.refuse(Shape.read("a"), ("a",), verdict)

    def test_errors(self):
        shape = example()
        for value in not_sets(shape.unknowns):
            for verdict in (judge(shape, ()), Verdict(None, None)):
                self.assertIs(self.refused(BadSet, "value", value, check_verdict, shape, value, verdict), value)


class Point63(PromiseCase):
    def test_what_is_accepted_has_the_right_kinds(self):
        """Any kinds, each with a paper that shows it for some unknown, readings or shape."""
        chance = random.Random(63)
        many = 0
        for _ in range(400):
            shape = some_shape(chance, EIGHT[:chance.randint(1, 3)], 3)
            readings = chance.choice(all_sets(shape.unknowns))
            drawn = [judge(shape, chance.choice([readings, chance.choice(all_sets(shape.unknowns))])) for _ in range(2)]
            kinds_ = {name: chance.choice(drawn).kinds[name] for name in shape.unknowns}
            papers = {name: chance.choice(drawn).papers[name] for name in shape.unknowns}
            if check_verdict(shape, readings, Verdict(kinds_, papers)):
                many += 1
                self.same(kinds_, kinds(shape, readings))
        self.assertGreater(many, 50)

    def test_a_verdict_copies_its_arguments(self):
        shape = example()
        verdict = judge(shape, ())
        kinds_, papers = verdict.kinds, verdict.papers
        held = copy.deepcopy((kinds_, papers))
        made = Verdict(kinds_, papers)
        self.spoil(kinds_)
        self.spoil(papers)
        self.same((made.kinds, made.papers), held)
        self.assertIs(check_verdict(shape, (), made), True)

    def test_what_it_returns_is_new(self):
        shape = example()
        verdict = judge(shape, ("z",))
        held = copy.deepcopy((verdict.kinds, verdict.papers))
        self.spoil(verdict.kinds)
        self.spoil(verdict.papers)
        self.same((verdict.kinds, verdict.papers), held)
        self.same((judge(shape, ("z",)).kinds, judge(shape, ("z",)).papers), held)
        self.assertIs(check_verdict(shape, ("z",), verdict), True)

    def spoil(self, value):
        """Empty all lists and dicts inside the value."""
        for inner in value.values() if isinstance(value, dict) else value if isinstance(value, (list, tuple)) else ():
            self.spoil(inner)
        if isinstance(value, (list, dict)):
            value.clear()

    def test_it_keeps_any_values(self):
        for value in ANY_VALUES:
            made = Verdict(value, [value])
            self.same(made.kinds, value)
            self.same(made.papers, [value])

    def test_inner_lists_and_dicts_of_any_values(self):
        inner = {"x": [1, ({"y": [2]},)]}
        made = Verdict(inner, ([inner],))
        self.spoil(inner)
        self.same(made.kinds, {"x": [1, ({"y": [2]},)]})
        self.same(made.papers, ([{"x": [1, ({"y": [2]},)]}],))
        self.spoil(made.kinds)
        self.spoil(made.papers)
        self.same(made.kinds, {"x": [1, ({"y": [2]},)]})
        self.same(made.papers, ([{"x": [1, ({"y": [2]},)]}],))


class Point10(PromiseCase):
    def test_not_equal_to_other_kinds(self):
        verdict = judge(example(), ())
        for value in [*ANY_VALUES, verdict.kinds, (verdict.kinds, verdict.papers), example()]:
            self.assertFalse(verdict == value)
            self.assertTrue(verdict != value)

    def test_always_the_same(self):
        for shape, readings in cases(10, 64):
            one, other = judge(shape, readings), judge(Shape.read(str(shape)), readings)
            self.same((one.kinds, one.papers), (other.kinds, other.papers))

    def test_by_name(self):
        shape = example()
        verdict = judge(readings=("x",), shape=shape)
        self.assertIs(check_verdict(verdict=verdict, readings=("x",), shape=shape), True)
        made = Verdict(papers=verdict.papers, kinds=verdict.kinds)
        self.same((made.kinds, made.papers), (verdict.kinds, verdict.papers))

    def test_interface(self):
        wanted = {"judge": ["shape", "readings"], "check_verdict": ["shape", "readings", "verdict"]}
        for name, arguments in wanted.items():
            call = getattr(module, name)
            self.assertEqual(list(inspect.signature(call).parameters), arguments)
            self.assertEqual(call.__module__, "anyfactors.verdicts")
        self.assertEqual(list(inspect.signature(Verdict).parameters), ["kinds", "papers"])
        self.assertEqual(Verdict.__module__, "anyfactors.verdicts")
        for name in ("kinds", "papers"):
            self.assertIsInstance(vars(Verdict)[name], property)


if __name__ == "__main__":
    unittest.main()
