"""The program as a whole: points 1, 2 and 6 to 11, over all stages."""

import importlib
import inspect
import random
import unittest

from anyfactors.books import Book
from anyfactors.errors import FactorError
from anyfactors.factors import (
    fits, follows_with, hidden_with, multipliers_with, rank_with, row_sums,
)
from anyfactors.fewest import all_least, enough, fewest, least_for, needless, slim
from anyfactors.hiding import check_hiding, hidden_sets, hiding
from anyfactors.kinds import check_mixing, check_strikes, kind_of, kinds, left_rows, mixing, strikes_for
from anyfactors.likeness import alike, fixed_places, kind_table, lean, loosened, needless_rows, parting, stronger
from anyfactors.pairing import check_crowded, check_pairing, crowded, pairing, spare_rows, telling_factors
from anyfactors.shapes import Shape, all_sets
from anyfactors.steps import always, check_steps, followed, reached, steps_from, steps_to
from anyfactors.sums import check_sum_hiding, check_sum_mixing, sum_hiding, sum_kind, sum_mixing
from anyfactors.verdicts import Verdict, check_verdict, judge
from checks import PromiseCase
from samples import EIGHT, LARGE, edge_shapes, places, some_factors, some_shape, unread

# As the interface lists it: each file with its functions and classes.
INTERFACE = {
    "errors": "FactorError BadName DuplicateName UnknownName BadCount BadSet BadRow BadText BadNumber BadFactors"
              " BadSteps BadSum Reached NotReached IsRead NotMixed NoPairing SumFollows SumNever UnlikeUnknowns"
              " NothingToUndo",
    "naming": "valid_name",
    "shapes": "all_sets is_set Shape",
    "factors": "fits follows_with row_sums hidden_with multipliers_with rank_with",
    "steps": "check_steps always steps_from steps_to reached followed",
    "hiding": "hiding check_hiding hidden_sets",
    "kinds": "strikes_for left_rows mixing check_mixing check_strikes kind_of kinds",
    "pairing": "pairing crowded check_pairing check_crowded telling_factors spare_rows",
    "fewest": "enough fewest needless slim all_least least_for",
    "sums": "sum_kind sum_hiding sum_mixing check_sum_hiding check_sum_mixing",
    "likeness": "alike stronger parting needless_rows lean loosened kind_table fixed_places",
    "verdicts": "judge check_verdict Verdict",
    "books": "Book",
}

METHODS = {
    "Shape": "unknowns rows occurs stands turned without with_row without_row read __eq__ __str__",
    "Verdict": "kinds papers",
    "Book": "shape readings kind verdict tried put_row drop_row add_reading drop_reading undo history __len__"
            " __contains__",
}


class TheInterface(PromiseCase):
    def test_each_name_is_defined_in_its_own_file(self):
        for file, names in INTERFACE.items():
            module = importlib.import_module(f"anyfactors.{file}")
            for name in names.split():
                self.assertEqual(getattr(module, name).__module__, f"anyfactors.{file}")

    def test_each_method_is_defined_in_its_own_class(self):
        for name, methods in METHODS.items():
            kind = {"Shape": Shape, "Verdict": Verdict, "Book": Book}[name]
            for method in methods.split():
                self.assertIn(method, vars(kind))

    def test_no_error_is_under_another_one(self):
        module = importlib.import_module("anyfactors.errors")
        for name in INTERFACE["errors"].split()[1:]:
            self.assertEqual(getattr(module, name).__bases__, (FactorError,))


def some_sum(shape, seed):
    chance = random.Random(seed)
    names = chance.sample(shape.unknowns, chance.randint(1, len(shape.unknowns)))
    return {name: chance.choice((-2, -1, 1, 2, LARGE)) for name in sorted(names)}


def questions(shape, readings):
    """Every function of the program, asked about a shape: a label, and a call that gives the answer.

    All arguments but the shape and the readings are made from other objects.
    """
    other = Shape.read(str(shape))
    factors = some_factors(other, random.Random(5))
    weights = some_sum(other, 6)
    zeros = {name: 0 for name in other.unknowns}
    verdict = judge(other, readings)
    asked = [
        ("unknowns", lambda: shape.unknowns), ("rows", lambda: shape.rows), ("text", lambda: str(shape)),
        ("stands", lambda: [shape.stands(name) for name in shape.unknowns]), ("turned", lambda: str(shape.turned())),
        ("without", lambda: str(shape.without(readings))),
        ("occurs", lambda: [shape.occurs(0, name) for name in shape.unknowns]),
        ("with row", lambda: str(shape.with_row((), readings))), ("without row", lambda: str(shape.without_row(0))),
        ("sets", lambda: all_sets(shape.unknowns)),
        ("equal", lambda: shape == other), ("equal, too", lambda: other == shape),
        ("fits", lambda: fits(shape, factors)), ("sums", lambda: row_sums(shape, factors, zeros)),
        ("rank", lambda: rank_with(shape, factors, readings)),
        ("check steps", lambda: check_steps(shape, readings, steps_from(other, readings))),
        ("steps", lambda: steps_from(shape, readings)), ("reached", lambda: reached(shape, readings)),
        ("followed", lambda: followed(
            shape, factors, [1] * len(shape.rows), {name: 3 for name in readings}, steps_from(other, readings),
        )),
        ("hidden sets", lambda: hidden_sets(shape, readings)), ("kinds", lambda: kinds(shape, readings)),
        ("pairing", lambda: pairing(shape, readings)), ("crowded", lambda: crowded(shape, readings)),
        ("check pairing", lambda: check_pairing(shape, readings, pairing(other, readings) or {})),
        ("check crowded", lambda: check_crowded(shape, readings, crowded(other, readings))),
        ("telling", lambda: telling_factors(shape, readings)), ("spare", lambda: spare_rows(shape, readings)),
        ("enough", lambda: enough(shape, readings)), ("fewest", lambda: fewest(shape)),
        ("least", lambda: all_least(shape)), ("needless", lambda: needless(shape, readings)),
        ("slim", lambda: slim(shape, readings)), ("sum kind", lambda: sum_kind(shape, readings, weights)),
        ("sum hiding", lambda: sum_hiding(shape, readings, weights)),
        ("sum mixing", lambda: sum_mixing(shape, readings, weights)),
        ("check sum hiding", lambda: check_sum_hiding(
            shape, readings, weights, *sum_hiding(other, readings, weights),
        )),
        ("check sum mixing", lambda: check_sum_mixing(
            shape, readings, weights, *sum_mixing(other, readings, weights),
        )),
        ("alike", lambda: alike(shape, other)), ("parting", lambda: parting(other, shape)),
        ("parting without a row", lambda: parting(shape, other.without_row(0))),
        ("stronger", lambda: stronger(shape, other)), ("stronger yet", lambda: stronger(shape.without_row(0), other)),
        ("needless rows", lambda: needless_rows(shape)), ("lean", lambda: str(lean(shape))),
        ("table", lambda: kind_table(shape)), ("fixed", lambda: fixed_places(shape)),
        ("loosened", lambda: [str(loosened(shape, number, name)) for number, name in places(other)]),
        ("judge", lambda: judge(shape, readings)), ("check verdict", lambda: check_verdict(shape, readings, verdict)),
        ("book", lambda: Book(shape).tried([("reading", name) for name in readings])),
        ("book shape", lambda: str(Book(shape).shape())),
    ]
    for name in other.unknowns:
        asked += questions_of_one(shape, other, readings, factors, name)
    return asked


def questions_of_one(shape, other, readings, factors, name):
    return [
        (("hidden", name), lambda: hidden_with(shape, factors, readings, name)),
        (("multipliers", name), lambda: multipliers_with(shape, factors, readings, name)),
        (("follows", name), lambda: follows_with(shape, factors, readings, name)),
        (("steps to", name), lambda: steps_to(shape, readings, name)),
        (("always", name), lambda: always(shape, readings, name)),
        (("hiding", name), lambda: hiding(shape, readings, name)),
        (("check hiding", name), lambda: check_hiding(shape, readings, name, *hiding(other, readings, name))),
        (("strikes", name), lambda: strikes_for(shape, readings, name)),
        (("left", name), lambda: left_rows(shape, readings, name)),
        (("mixing", name), lambda: mixing(shape, readings, name)),
        (("check mixing", name), lambda: check_mixing(shape, readings, name, *mixing(other, readings, name))),
        (("check strikes", name), lambda: check_strikes(shape, readings, name, strikes_for(other, readings, name))),
        (("kind", name), lambda: kind_of(shape, readings, name)),
        (("least always", name), lambda: least_for(shape, name, "always")),
        (("least sometimes", name), lambda: least_for(shape, name, "sometimes")),
    ]


def answers(shape, readings, seed):
    """The answers to all questions, asked in an order of their own; an error is an answer, too."""
    asked = questions(shape, readings)
    found = {}
    for label, call in random.Random(seed).sample(asked, len(asked)):
        try:
            found[label] = call()
        except FactorError as error:
            found[label] = (type(error).__name__, vars(error))
    return found


def made_in_other_ways(shape):
    """Shapes that are equal to this one."""
    yield Shape.read(str(shape))
    yield Shape(list(reversed(shape.unknowns)), list(shape.rows))
    if len(shape.rows) < 8:
        yield shape.with_row((), shape.unknowns).without_row(len(shape.rows))
    else:
        sure, perhaps = shape.rows[7]
        yield shape.without_row(7).with_row(sure, perhaps)
    book = Book(shape)
    if shape.rows:
        book.drop_row(0)
    book.put_row(shape.unknowns[:1], shape.unknowns[1:])
    book.add_reading(shape.unknowns[0])
    while len(book):
        book.undo()
    yield book.shape()
    if shape.rows and shape.unknowns == tuple(f"r{number}" for number in range(len(shape.unknowns))):
        yield shape.turned().turned()


def renamed(shape):
    """The shape with r0, r1 and so on as its unknowns, so that it can be turned twice."""
    names = {name: f"r{at}" for at, name in enumerate(shape.unknowns)}
    rows = [tuple(tuple(names[name] for name in part) for part in row) for row in shape.rows]
    return Shape(list(names.values()), rows)


class EqualShapes(PromiseCase):
    """Equal shapes that were made in different ways get the same answers, in any order of the questions."""

    def check(self, shape, readings):
        wanted = answers(shape, readings, 0)
        self.assertIs(wanted["equal"], True)
        self.assertIs(wanted["check verdict"], True)
        for at, other in enumerate(made_in_other_ways(shape)):
            self.assertTrue(other == shape)
            self.same(answers(other, readings, at + 1), wanted)

    def test_shapes_at_the_edges(self):
        for at, shape in enumerate(edge_shapes()):
            for readings in [(), shape.unknowns, random.Random(at).choice(all_sets(shape.unknowns))]:
                self.check(shape, readings)

    def test_turned_twice(self):
        chance = random.Random(18)
        turned = 0
        for shape in edge_shapes()[::2] + [some_shape(chance, EIGHT[:chance.randint(1, 5)], 5) for _ in range(10)]:
            shape = renamed(shape)
            turned += len(list(made_in_other_ways(shape))) == 5
            self.check(shape, chance.choice(all_sets(shape.unknowns)))
        self.assertGreater(turned, 10)


class FromTheTextToValues(PromiseCase):
    """A shape is read from its text, and what its verdict says is seen in values."""

    def cases(self):
        chance = random.Random(1)
        shapes = edge_shapes() + [some_shape(chance, EIGHT[:chance.randint(1, 8)]) for _ in range(80)]
        for shape in shapes:
            for readings in [(), chance.choice(all_sets(shape.unknowns))]:
                yield Shape.read(str(shape)), readings, chance

    def test_each_kind(self):
        seen = {"always": 0, "sometimes": 0, "never": 0}
        for shape, readings, chance in self.cases():
            verdict = judge(shape, readings)
            self.assertIs(check_verdict(shape, readings, verdict), True)
            tests = {"always": self.worked_out, "sometimes": self.both, "never": self.not_at_all}
            for name, kind in verdict.kinds.items():
                tests[kind](shape, readings, name, verdict.papers[name], chance)
                seen[kind] += 1
        self.assertGreater(min(seen.values()), 50)

    def worked_out(self, shape, readings, name, steps, chance):
        for size in (2, LARGE):
            factors = some_factors(shape, chance, size)
            values = {other: chance.randint(-size, size) for other in shape.unknowns}
            sides = row_sums(shape, factors, values)
            known = {other: values[other] for other in readings}
            found = followed(shape, factors, sides, known, steps)
            self.same(found[name], (values[name], 1))
            self.same({other: top for other, (top, _) in found.items()}, {other: values[other] for other in found})
            self.assertIs(follows_with(shape, factors, readings, name), True)

    def both(self, shape, readings, name, paper, chance):
        (factors, values), (others, multipliers) = paper
        self.assertIs(follows_with(shape, factors, readings, name), False)
        self.same(row_sums(shape, factors, values), [0] * len(shape.rows))
        self.same([values[name], *[values[other] for other in readings]], [1] + [0] * len(readings))
        self.assertIs(follows_with(shape, others, readings, name), True)
        # The rows, multiplied and added up, tell the unknown from the sides and the readings alone.
        values = {other: chance.randint(-LARGE, LARGE) for other in shape.unknowns}
        sides = row_sums(shape, others, values)
        column = {
            other: sum(times * others.get((at, other), 0) for at, times in enumerate(multipliers))
            for other in shape.unknowns
        }
        left = sum(times * side for times, side in zip(multipliers, sides))
        left -= sum(column[other] * values[other] for other in readings)
        self.same(left, column[name] * values[name])
        self.assertNotEqual(column[name], 0)

    def not_at_all(self, shape, readings, name, strikes, chance):
        self.assertIs(check_strikes(shape, readings, name, strikes), True)
        for size in (1, 2, LARGE):
            factors = some_factors(shape, chance, size)
            self.assertIs(follows_with(shape, factors, readings, name), False)
            self.assertIs(multipliers_with(shape, factors, readings, name) is None, True)
            self.assertIs(check_hiding(
                shape, readings, name, factors, hidden_with(shape, factors, readings, name),
            ), True)


class Point9(PromiseCase):
    """The four promises, between all stages."""

    def test_all_four(self):
        chance = random.Random(9)
        for shape in edge_shapes() + [some_shape(chance, EIGHT[:chance.randint(1, 8)]) for _ in range(60)]:
            for readings in [(), *chance.sample(all_sets(shape.unknowns), 2)]:
                self.steps_or_hiding(shape, readings)
                self.mixing_or_strikes(shape, readings)
                self.pairing_or_not(shape, readings)
                self.sums(shape, readings, some_sum(shape, chance.random()))

    def raises(self, call, *arguments):
        try:
            call(*arguments)
        except FactorError:
            return True
        return False

    def steps_or_hiding(self, shape, readings):
        for name in shape.unknowns:
            one = self.raises(steps_to, shape, readings, name)
            self.assertIs(one, not self.raises(hiding, shape, readings, name))

    def mixing_or_strikes(self, shape, readings):
        for name in unread(shape, readings):
            mixed = not self.raises(mixing, shape, readings, name)
            strikes = check_strikes(shape, readings, name, strikes_for(shape, readings, name))
            self.assertIs(mixed, not strikes)

    def pairing_or_not(self, shape, readings):
        told = not self.raises(telling_factors, shape, readings)
        self.assertIs(told, pairing(shape, readings) is not None)
        if told:
            factors = telling_factors(shape, readings)
            self.assertTrue(all(follows_with(shape, factors, readings, name) for name in shape.unknowns))

    def sums(self, shape, readings, weights):
        hidden = not self.raises(sum_hiding, shape, readings, weights)
        mixed = not self.raises(sum_mixing, shape, readings, weights)
        kind = sum_kind(shape, readings, weights)
        self.assertEqual((hidden, mixed), {
            "always": (False, True), "sometimes": (True, True), "never": (True, False),
        }[kind])
        self.assertIs(kind == "always", all(always(shape, readings, name) for name in weights))


class Point10(PromiseCase):
    def test_no_argument_is_changed_and_what_is_returned_is_free(self):
        for shape in edge_shapes()[::2]:
            before = str(shape)
            for readings in [(), shape.unknowns[:2]]:
                held = answers(shape, readings, 1)
                for found in answers(shape, readings, 2).values():
                    self.spoil(found)
                self.same(answers(shape, readings, 3), held)
            self.same(str(shape), before)

    def spoil(self, found):
        if isinstance(found, (list, dict)):
            found.clear()
        elif isinstance(found, tuple):
            for part in found:
                self.spoil(part)
        elif isinstance(found, Verdict):
            found.kinds.clear()
            found.papers.clear()

    def test_tuples_where_lists_are_expected(self):
        shape = Shape(("y", "x", "z"), ((("x", "y"), ()), (("z",), ("x",)), ((), ("y", "z"))))
        self.assertTrue(shape == Shape(["x", "y", "z"], [(("x", "y"), ()), (("z",), ("x",)), ((), ("y", "z"))]))
        steps = steps_from(shape, ("x",))
        self.assertIs(check_steps(shape, ("x",), tuple(steps)), True)
        factors = some_factors(shape, random.Random(1))
        self.same(
            followed(shape, factors, (4, 5, 6), {"x": 2}, tuple(steps)),
            followed(shape, factors, [4, 5, 6], {"x": 2}, steps),
        )
        found, multipliers = mixing(shape, (), "x")
        self.assertIs(check_mixing(shape, (), "x", found, tuple(multipliers)), True)
        found, multipliers, times = sum_mixing(shape, (), {"x": 1, "z": 4})
        self.assertIs(check_sum_mixing(shape, (), {"x": 1, "z": 4}, found, tuple(multipliers), times), True)
        strikes = strikes_for(Shape.read("x y; x y"), (), "y")
        self.assertIs(check_strikes(Shape.read("x y; x y"), (), "y", tuple(strikes)), True)
        book = Book(shape)
        self.same(book.tried((("reading", "x"),)), book.tried([("reading", "x")]))

    def test_objects_are_not_equal_to_other_kinds(self):
        shape = Shape.read("x y; x y")
        things = [shape, judge(shape, ()), Book(shape), str(shape), (shape.unknowns, shape.rows), None, 0, [], {}]
        for at, one in enumerate(things[:3]):
            for other in things[at + 1:]:
                self.assertFalse(one == other)
                self.assertTrue(one != other)


class Signatures(PromiseCase):
    def test_every_function_has_plain_parameters(self):
        for file, names in INTERFACE.items():
            module = importlib.import_module(f"anyfactors.{file}")
            for name in names.split():
                call = getattr(module, name)
                if inspect.isfunction(call):
                    for parameter in inspect.signature(call).parameters.values():
                        self.assertIs(parameter.default, inspect.Parameter.empty)
                        self.assertIs(parameter.kind, inspect.Parameter.POSITIONAL_OR_KEYWORD)


if __name__ == "__main__":
    unittest.main()
