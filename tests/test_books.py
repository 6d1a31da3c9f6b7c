"""Points 9, 10 and 64 to 70: books."""

import copy
import inspect
import random
import unittest

from anyfactors import books as module
from anyfactors.books import Book
from anyfactors.errors import (
    BadCount, BadNumber, BadRow, DuplicateName, FactorError, NothingToUndo, UnknownName,
)
from anyfactors.kinds import kind_of
from anyfactors.shapes import Shape
from anyfactors.steps import reached
from anyfactors.verdicts import check_verdict, judge
from checks import ANY_VALUES, HUGE, PromiseCase
from samples import EIGHT, NOT_UNKNOWNS, edge_shapes, some_shape

BAD_ROWS = [
    (("x",), ("x",)), (("q",), ()), ((), ("q",)), (("y", "x"), ()), (["x"], ()), ((), ["x"]), ("x", ()), (None, ()),
    ((), None), (("x", "x"), ()), (True, 0), ({"x": 1}, ()), ((1,), ()), ((("x",),), ()),
]


def example():
    return Shape.read("x y z; x y; y z; z | x")


def told(book):
    """All that a book says of itself, for comparison."""
    verdict = book.verdict()
    return (
        str(book.shape()), book.readings(), [book.kind(name) for name in book.shape().unknowns],
        verdict.kinds, verdict.papers, [name in book for name in book.shape().unknowns],
    )


def whole(book):
    return told(book), len(book), book.history()


def fresh(shape, readings):
    """A new book of an equal shape to which these readings have been added."""
    book = Book(Shape.read(str(shape)))
    for name in readings:
        book.add_reading(name)
    return book


def make(book, change):
    """Make a change that is given as a tuple, as point 67 has it."""
    calls = {
        "row": book.put_row, "drop row": book.drop_row, "reading": book.add_reading, "drop reading": book.drop_reading,
    }
    return calls[change[0]](*change[1:])


class Model:
    """The same as a book, by lists of texts."""

    def __init__(self, shape):
        self.states = [(shape, ())]
        self.changes = []

    def after(self, change):
        """The shape and the readings after a change, or the error that it raises, and what this one carries."""
        shape, readings = self.states[-1]
        if change[0] == "row":
            if len(shape.rows) == 8:
                return BadCount, "count", 9
            try:
                return Shape(shape.unknowns, [*shape.rows, change[1:]]), readings
            except FactorError:
                return BadRow, "value", change[1:]
        if change[0] == "drop row":
            if type(change[1]) is not int or not 0 <= change[1] < len(shape.rows):
                return BadNumber, "value", change[1]
            return Shape(shape.unknowns, [row for at, row in enumerate(shape.rows) if at != change[1]]), readings
        name = change[1]
        if name not in (shape.unknowns if change[0] == "reading" else readings):
            return UnknownName, "name", name
        if change[0] == "reading":
            if name in readings:
                return DuplicateName, "name", name
            return shape, tuple(sorted([*readings, name]))
        return shape, tuple(other for other in readings if other != name)


def some_change(chance, names):
    """A change that may be refused."""
    word = chance.choice(["row", "drop row", "reading", "reading", "drop reading"])
    if word == "row":
        if chance.random() < 0.2:
            return (word, *chance.choice(BAD_ROWS))
        marks = {name: chance.randrange(4) for name in names}
        return (
            word, tuple(name for name in names if marks[name] == 0), tuple(name for name in names if marks[name] == 1),
        )
    if word == "drop row":
        return (word, chance.choice([0, 1, 2, 3, 4, 5, 6, 7, 8, -1, None, True, "0"]))
    return (word, chance.choice([*names, "q"]))


class Example(PromiseCase):
    def test_example(self):
        book = Book(example())
        before = [book.kind("z"), "z" in book]
        book.add_reading("x")
        book.put_row((), ("z",))
        self.same(
            [before, book.kind("z"), book.readings(), len(book), book.history(), "z" in book],
            [["sometimes", False], "always", ("x",), 2, [("reading", "x"), ("row", (), ("z",))], True],
        )


class Point64(PromiseCase):
    def test_a_new_book(self):
        for shape in edge_shapes():
            book = Book(shape)
            self.assertTrue(book.shape() == shape)
            self.same(type(book.shape()), Shape)
            self.same([book.readings(), len(book), book.history()], [(), 0, []])
            for name in shape.unknowns:
                self.same(book.kind(name), kind_of(shape, (), name))
                self.assertIs(name in book, name in reached(shape, ()))
            self.same(book.verdict(), judge(shape, ()))

    def test_kinds_and_verdicts_with_readings(self):
        chance = random.Random(64)
        for shape in edge_shapes() + [some_shape(chance) for _ in range(30)]:
            book = Book(shape)
            for name in chance.sample(shape.unknowns, len(shape.unknowns)):
                book.add_reading(name)
                for other in shape.unknowns:
                    self.same(book.kind(other), kind_of(shape, book.readings(), other))
                self.same(book.verdict(), judge(shape, book.readings()))
                self.assertIs(check_verdict(book.shape(), book.readings(), book.verdict()), True)

    def test_errors(self):
        book = Book(example())
        for name in NOT_UNKNOWNS:
            self.refused(UnknownName, "name", name, book.kind, name)
        book.add_reading("x")
        for name in NOT_UNKNOWNS:
            self.refused(UnknownName, "name", name, book.kind, name)


class Point65(PromiseCase):
    def test_put_row(self):
        book = Book(example())
        self.assertIs(book.put_row(("x",), ("z",)), None)
        self.same(str(book.shape()), "x y z; x y; y z; z | x; x | z")
        self.assertIs(book.put_row((), ()), None)
        self.same(str(book.shape()), "x y z; x y; y z; z | x; x | z; -")

    def test_a_ninth_row(self):
        book = Book(Shape.read("x"))
        for many in range(8):
            book.put_row(("x",), ())
            self.same(len(book.shape().rows), many + 1)
        before = whole(book)
        self.refused(BadCount, "count", 9, book.put_row, ("x",), ())
        for sure, perhaps in BAD_ROWS:
            self.refused(BadCount, "count", 9, book.put_row, sure, perhaps)
        self.same(whole(book), before)
        book.drop_row(0)
        book.put_row((), ("x",))
        self.same(str(book.shape()), "x; x; x; x; x; x; x; x; - | x")

    def test_wrong_rows(self):
        book = Book(example())
        before = whole(book)
        for sure, perhaps in BAD_ROWS:
            self.refused(BadRow, "value", (sure, perhaps), book.put_row, sure, perhaps)
            self.same(whole(book), before)

    def test_drop_row(self):
        book = Book(example())
        self.assertIs(book.drop_row(1), None)
        self.same(str(book.shape()), "x y z; x y; z | x")
        book.drop_row(0)
        book.drop_row(0)
        self.same(str(book.shape()), "x y z")
        self.refused(BadNumber, "value", 0, book.drop_row, 0)

    def test_wrong_numbers(self):
        book = Book(example())
        before = whole(book)
        for value in [*ANY_VALUES, 3, -3, HUGE]:
            if not (type(value) is int and value in (0, 1, 2)):
                self.assertIs(self.refused(BadNumber, "value", value, book.drop_row, value), value)
        self.same(whole(book), before)

    def test_readings(self):
        book = Book(example())
        for name, wanted in [("z", ("z",)), ("x", ("x", "z")), ("y", ("x", "y", "z"))]:
            self.assertIs(book.add_reading(name), None)
            self.same(book.readings(), wanted)
        for name, wanted in [("x", ("y", "z")), ("z", ("y",)), ("y", ())]:
            self.assertIs(book.drop_reading(name), None)
            self.same(book.readings(), wanted)

    def test_wrong_readings(self):
        book = Book(example())
        book.add_reading("y")
        before = whole(book)
        for name in NOT_UNKNOWNS:
            self.assertIs(self.refused(UnknownName, "name", name, book.add_reading, name), name)
            self.assertIs(self.refused(UnknownName, "name", name, book.drop_reading, name), name)
        self.refused(DuplicateName, "name", "y", book.add_reading, "y")
        for name in "xz":
            self.refused(UnknownName, "name", name, book.drop_reading, name)
        self.same(whole(book), before)


class Points66And69(PromiseCase):
    def test_undo(self):
        book = Book(example())
        changes = [
            ("reading", "x"), ("row", ("x",), ("y",)), ("drop row", 0), ("reading", "z"), ("drop reading", "x"),
            ("drop row", 2), ("row", (), ()), ("drop reading", "z"),
        ]
        states = [whole(book)]
        for many, change in enumerate(changes):
            make(book, change)
            self.same(book.history(), changes[:many + 1])
            self.same(len(book), many + 1)
            states.append(whole(book))
        for state in reversed(states[:-1]):
            self.assertIs(book.undo(), None)
            self.same(whole(book), state)
        with self.assertRaises(NothingToUndo):
            book.undo()
        self.same(whole(book), states[0])

    def test_nothing_to_undo(self):
        book = Book(Shape.read("x"))
        for _ in range(3):
            with self.assertRaises(NothingToUndo) as caught:
                book.undo()
            self.assertIs(type(caught.exception), NothingToUndo)
            self.same([len(book), book.history()], [0, []])
        book.add_reading("x")
        book.undo()
        with self.assertRaises(NothingToUndo):
            book.undo()

    def test_undo_is_not_a_change(self):
        book = Book(example())
        book.add_reading("x")
        book.add_reading("y")
        book.undo()
        self.same([len(book), book.history(), book.readings()], [1, [("reading", "x")], ("x",)])
        book.put_row(("z",), ())
        self.same(book.history(), [("reading", "x"), ("row", ("z",), ())])
        book.undo()
        book.undo()
        self.same([len(book), book.readings(), str(book.shape())], [0, (), str(example())])

    def test_changes_that_raise_are_none(self):
        book = Book(example())
        book.add_reading("x")
        for change in [("reading", "x"), ("reading", "q"), ("drop reading", "y"), ("drop row", 3), ("row", ("q",), ())]:
            with self.assertRaises(FactorError):
                make(book, change)
            self.same([len(book), book.history()], [1, [("reading", "x")]])

    def test_many_changes(self):
        book = Book(example())
        changes = []
        for many in range(259):
            change = ("reading", "x") if many in range(0, 259, 2) else ("drop reading", "x")
            make(book, change)
            changes.append(change)
        self.same([len(book), book.history(), book.readings()], [259, changes, ("x",)])
        for many in range(258, -1, -1):
            book.undo()
            self.same(len(book), many)
        self.same(whole(book), whole(Book(example())))
        with self.assertRaises(NothingToUndo):
            book.undo()

    def test_a_history_is_new(self):
        book = Book(example())
        book.add_reading("x")
        found = book.history()
        found.clear()
        self.same([len(book), book.history()], [1, [("reading", "x")]])
        book.history().append(("reading", "y"))
        self.same([len(book), book.history(), book.readings()], [1, [("reading", "x")], ("x",)])
        before = book.history()
        book.add_reading("y")
        self.same(before, [("reading", "x")])

    def test_a_history_makes_the_same_book(self):
        chance = random.Random(69)
        for shape in edge_shapes():
            book = Book(shape)
            for _ in range(30):
                try:
                    make(book, some_change(chance, shape.unknowns))
                except FactorError:
                    pass
            other = Book(shape)
            for change in book.history():
                self.assertIs(type(change), tuple)
                make(other, change)
            self.same(whole(other), whole(book))
            self.same(Book(shape).tried(book.history()), book.verdict())


class Point67(PromiseCase):
    CHANGES = [("row", ("x",), ("z",)), ("drop row", 1), ("reading", "z"), ("reading", "y"), ("drop reading", "z")]
    WRONG = [
        (("row", ("q",), ()), BadRow, "value", (("q",), ())), (("drop row", 8), BadNumber, "value", 8),
        (("drop row", True), BadNumber, "value", True), (("reading", "q"), UnknownName, "name", "q"),
        (("reading", "x"), DuplicateName, "name", "x"), (("drop reading", "w"), UnknownName, "name", "w"),
    ]

    def book(self):
        book = Book(example())
        book.add_reading("x")
        book.put_row((), ("y",))
        book.drop_row(0)
        return book

    def check_stays(self, book, before):
        self.same(whole(book), before)
        other = self.book()
        for _ in range(3):
            book.undo()
            other.undo()
            self.same(whole(book), whole(other))

    def test_what_it_returns(self):
        for many in range(len(self.CHANGES) + 1):
            for kind in (list, tuple):
                book, other = self.book(), self.book()
                before = whole(book)
                found = self.given(book.tried, kind(self.CHANGES[:many]))
                for change in self.CHANGES[:many]:
                    make(other, change)
                self.same(found, other.verdict())
                self.check_stays(book, before)

    def test_no_changes(self):
        book = self.book()
        before = whole(book)
        self.same(book.tried([]), book.verdict())
        self.same(book.tried(()), book.verdict())
        self.check_stays(book, before)

    def test_changes_that_are_refused_at_any_place(self):
        for wrong, error, attribute, value in self.WRONG:
            for at in range(len(self.CHANGES) + 1):
                for kind in (list, tuple):
                    changes = kind([*self.CHANGES[:at], wrong, *self.CHANGES[at:]])
                    book = self.book()
                    before = whole(book)
                    self.refused(error, attribute, value, book.tried, changes)
                    self.check_stays(book, before)

    def test_the_first_error_counts(self):
        for one, error, attribute, value in self.WRONG:
            for other, _, _, _ in self.WRONG:
                self.refused(error, attribute, value, self.book().tried, [*self.CHANGES, one, other])

    def test_a_ninth_row(self):
        book = self.book()
        before = whole(book)
        rows = [("row", (), ("x",))] * 5
        self.same(book.tried(rows).kinds["x"], "always")
        self.refused(BadCount, "count", 9, book.tried, [*rows, ("row", (), ())])
        self.refused(BadCount, "count", 9, book.tried, [*rows, ("row", ("q",), ())])
        self.same(book.tried([*rows, ("drop row", 0), ("row", (), ())]).kinds["x"], "always")
        self.check_stays(book, before)

    def test_a_change_depends_on_those_before_it(self):
        book = Book(example())
        self.refused(UnknownName, "name", "x", book.tried, [("drop reading", "x")])
        self.same(book.tried([("reading", "x"), ("drop reading", "x")]), book.verdict())
        self.refused(DuplicateName, "name", "x", book.tried, [("reading", "x"), ("reading", "x")])
        self.refused(BadNumber, "value", 2, book.tried, [("drop row", 0), ("drop row", 2)])
        self.same(book.tried([("reading", "x")]).kinds, {"x": "always", "y": "always", "z": "always"})
        self.same([len(book), book.readings()], [0, ()])

    def test_the_list_and_the_verdict_are_free(self):
        book = self.book()
        before = whole(book)
        changes = list(self.CHANGES)
        found = book.tried(changes)
        changes.clear()
        found.papers.clear()
        found.kinds.clear()
        self.same(book.tried(self.CHANGES), found)
        self.check_stays(book, before)


class Point68(PromiseCase):
    def test_any_value(self):
        book = Book(example())
        book.add_reading("x")
        for value in ANY_VALUES:
            before = copy.deepcopy(value)
            self.assertIs(value in book, type(value) is str and value in ("x", "y", "z"))
            self.same(value, before)
        for value in [["x"], ("x",), {"x": 1}, "xy", "x ", "X", True, 0, example(), book]:
            self.assertIs(value in book, False)

    def test_as_the_readings_are_now(self):
        book = Book(example())
        self.same([name in book for name in "xyz"], [False] * 3)
        book.add_reading("z")
        self.same([name in book for name in "xyz"], [True] * 3)
        book.drop_row(0)
        self.same([name in book for name in "xyz"], [False, True, True])
        book.undo()
        book.undo()
        self.same([name in book for name in "xyz"], [False] * 3)
        self.assertIs("x" not in book, True)

    def test_sometimes_is_not_enough(self):
        book = Book(Shape.read("x y; - | x; y | x"))
        self.same([book.kind("x"), "x" in book, book.kind("y"), "y" in book], ["sometimes", False, "sometimes", False])


class Points9And70(PromiseCase):
    def test_any_calls(self):
        chance = random.Random(70)
        for at in range(60):
            names = EIGHT[:chance.randint(1, 8)] if at else EIGHT
            shape = some_shape(chance, names)
            book, model = Book(shape), Model(shape)
            for _ in range(60):
                self.one_call(chance, book, model)
                if chance.random() < 0.2:
                    self.same(told(book), told(fresh(*model.states[-1])))
                    self.assertIs(check_verdict(book.shape(), book.readings(), book.verdict()), True)
            self.same(whole(book), (told(fresh(*model.states[-1])), len(model.changes), model.changes))

    def one_call(self, chance, book, model):
        if chance.random() < 0.2:
            if model.changes:
                book.undo()
                model.changes.pop()
                model.states.pop()
            else:
                with self.assertRaises(NothingToUndo):
                    book.undo()
        else:
            change = some_change(chance, model.states[-1][0].unknowns)
            after = model.after(change)
            if len(after) == 3:
                self.refused(*after, make, BookHolder(book), change)
            else:
                make(book, change)
                model.changes.append(change)
                model.states.append(after)
        shape, readings = model.states[-1]
        self.assertTrue(book.shape() == shape)
        self.same([book.readings(), len(book), book.history()], [readings, len(model.changes), model.changes])

    def test_two_books_of_one_shape(self):
        shape = example()
        one, other = Book(shape), Book(shape)
        one.add_reading("x")
        one.drop_row(0)
        self.same(whole(other), whole(Book(example())))
        self.same(str(shape), str(example()))
        other.add_reading("z")
        self.same([one.readings(), other.readings()], [("x",), ("z",)])

    def test_all_readings(self):
        book = fresh(Shape(EIGHT, []), EIGHT)
        self.same(book.readings(), EIGHT)
        self.same(book.verdict().kinds, {name: "always" for name in EIGHT})
        self.same([name in book for name in EIGHT], [True] * 8)
        self.refused(DuplicateName, "name", "x", book.add_reading, "x")


class BookHolder:
    """A book, kept from being copied: each method is that of the book."""

    def __init__(self, book):
        for name in ("put_row", "drop_row", "add_reading", "drop_reading"):
            setattr(self, name, getattr(book, name))

    def __deepcopy__(self, memo):
        return self


class Point10(PromiseCase):
    def test_what_is_returned_is_new(self):
        book = Book(Shape.read("w x y z; x y; x y; w y z"))
        before = whole(book)
        verdict = book.verdict()
        verdict.kinds.clear()
        for paper in verdict.papers.values():
            if isinstance(paper, list):
                paper.append(1)
        book.verdict().papers.clear()
        self.same(whole(book), before)

    def test_not_equal_to_other_kinds(self):
        book = Book(example())
        for value in [*ANY_VALUES, example(), (example(), ())]:
            self.assertFalse(book == value)
            self.assertTrue(book != value)

    def test_by_name(self):
        book = Book(shape=example())
        book.put_row(perhaps=("z",), sure=("x",))
        book.drop_row(number=0)
        book.add_reading(name="x")
        book.drop_reading(name="x")
        self.same(book.kind(name="x"), "sometimes")
        self.same(book.tried(changes=[("reading", "x")]).kinds["x"], "always")
        self.same(book.history(), [
            ("row", ("x",), ("z",)), ("drop row", 0), ("reading", "x"), ("drop reading", "x"),
        ])

    def test_interface(self):
        wanted = {
            "shape": [], "readings": [], "kind": ["name"], "verdict": [], "tried": ["changes"],
            "put_row": ["sure", "perhaps"], "drop_row": ["number"], "add_reading": ["name"], "drop_reading": ["name"],
            "undo": [], "history": [],
        }
        for name, arguments in wanted.items():
            call = vars(Book)[name]
            self.assertEqual(list(inspect.signature(call).parameters), ["self", *arguments])
        self.assertIn("__len__", vars(Book))
        self.assertIn("__contains__", vars(Book))
        self.assertEqual(Book.__module__, "anyfactors.books")
        self.assertEqual(module.Book, Book)
        self.assertEqual(list(inspect.signature(Book).parameters), ["shape"])


if __name__ == "__main__":
    unittest.main()
