"""Points 5, 10 and 15 to 19: shapes, but for their texts."""

import copy
import inspect
import itertools
import unittest

from anyfactors.errors import BadCount, BadName, BadNumber, BadRow, BadSet, DuplicateName, UnknownName
from anyfactors.shapes import Shape, all_sets
from checks import ANY_VALUES, HUGE, PromiseCase

EIGHT = ["a", "b1", "b2", "c", "flow1", "x", "y", "z"]
ROWS_OF_TWO = [
    (sure, perhaps)
    for sure in all_sets(("x", "y")) for perhaps in all_sets(("x", "y"))
    if not any(name in sure for name in perhaps)
]
NOT_NUMBERS_OF_TWO_ROWS = [
    value for value in ANY_VALUES + [3, -2, "0", (0,), [0]]
    if not (type(value) is int and value in (0, 1))
]


def example():
    return Shape(["y", "x", "z"], [(("x", "y"), ()), (("z",), ("x",)), ((), ())])


def small_shapes():
    """All shapes with the unknowns x and y and at most two rows."""
    for many in range(3):
        for rows in itertools.product(ROWS_OF_TWO, repeat=many):
            yield Shape(["x", "y"], list(rows))


class Point15(PromiseCase):
    def test_example(self):
        self.refused(BadRow, "value", (("x",), ("x",)), Shape, ["x"], [(("x",), ("x",))])

    def test_numbers_of_unknowns(self):
        self.refused(BadCount, "count", 0, Shape, [], [])
        self.refused(BadCount, "count", 0, Shape, (), ())
        self.same(Shape(["q"], []).unknowns, ("q",))
        self.same(Shape(EIGHT, []).unknowns, tuple(EIGHT))
        self.refused(BadCount, "count", 9, Shape, EIGHT + ["zz"], [])
        self.refused(BadCount, "count", 12, Shape, ["x"] * 12, [])

    def test_names(self):
        for name in ["", "X", "1", "1x", "x\n", "toolong", "x y", " x", "-", "x|"]:
            held = self.refused(BadName, "name", name, Shape, ["a", name, "b"], [])
            self.assertIs(held, name)
            self.refused(BadName, "name", name, Shape, [name], [])

    def test_names_that_are_there_twice(self):
        self.refused(DuplicateName, "name", "x", Shape, ["x", "x"], [])
        self.refused(DuplicateName, "name", "x", Shape, ["x", "y", "z", "x"], [])
        self.refused(DuplicateName, "name", "y", Shape, ["x", "y", "y", "x"], [])

    def test_the_first_name_that_is_wrong_counts(self):
        self.refused(DuplicateName, "name", "x", Shape, ["x", "x", "1"], [])
        self.refused(BadName, "name", "1", Shape, ["x", "1", "x"], [])
        self.refused(BadName, "name", "1", Shape, ["1", "1"], [])
        self.refused(BadName, "name", "2", Shape, ["x", "2", "1"], [])

    def test_numbers_of_rows(self):
        empty = ((), ())
        self.same(Shape(["x"], []).rows, ())
        self.same(Shape(["x"], [empty] * 8).rows, (empty,) * 8)
        self.refused(BadCount, "count", 9, Shape, ["x"], [empty] * 9)
        self.refused(BadCount, "count", 11, Shape, ["x"], [None] * 11)

    def test_the_order_of_the_errors(self):
        self.refused(BadCount, "count", 9, Shape, EIGHT + ["1"], [None] * 10)
        self.refused(BadCount, "count", 0, Shape, [], [None] * 10)
        self.refused(BadName, "name", "1", Shape, ["1"], [None] * 10)
        self.refused(DuplicateName, "name", "x", Shape, ["x", "x"], [None] * 10)
        self.refused(BadCount, "count", 10, Shape, ["x"], [None] * 10)
        self.refused(BadName, "name", "1", Shape, ["1"], [None])

    def test_any_value_as_a_row(self):
        for value in ANY_VALUES:
            if type(value) is tuple and value in ROWS_OF_TWO and type(value[0]) is tuple and type(value[1]) is tuple:
                self.same(self.given(Shape, ["x", "y"], [value]).rows, (value,))
            else:
                held = self.refused(BadRow, "value", value, Shape, ["x", "y"], [value])
                self.assertIs(held, value)

    def test_any_value_as_a_set_of_a_row(self):
        right = all_sets(("x", "y"))
        for value in ANY_VALUES:
            if type(value) is tuple and value in right:
                self.same(Shape(["x", "y"], [(value, ())]).rows, ((value, ()),))
                self.same(Shape(["x", "y"], [((), value)]).rows, (((), value),))
            else:
                self.refused(BadRow, "value", (value, ()), Shape, ["x", "y"], [(value, ())])
                self.refused(BadRow, "value", ((), value), Shape, ["x", "y"], [((), value)])

    def test_rows_with_common_unknowns(self):
        for sure in all_sets(("x", "y", "z")):
            for perhaps in all_sets(("x", "y", "z")):
                row = (sure, perhaps)
                if set(sure) & set(perhaps):
                    self.refused(BadRow, "value", row, Shape, ["z", "y", "x"], [row])
                else:
                    self.same(Shape(["z", "y", "x"], [row]).rows, (row,))

    def test_the_first_row_that_is_wrong_counts(self):
        good = (("x",), ())
        self.refused(BadRow, "value", None, Shape, ["x"], [good, None, 5])
        self.refused(BadRow, "value", (("y",), ()), Shape, ["x"], [(("y",), ()), good, None])

    def test_by_name_and_with_tuples(self):
        wanted = Shape(["x", "y"], [(("x",), ("y",))])
        self.assertEqual(Shape(unknowns=["x", "y"], rows=[(("x",), ("y",))]), wanted)
        self.assertEqual(Shape(rows=((("x",), ("y",)),), unknowns=("x", "y")), wanted)
        self.refused(BadCount, "count", 0, Shape, unknowns=[], rows=[])

    def test_later_changes_to_the_arguments_have_no_effect(self):
        unknowns, rows = ["y", "x"], [(("x",), ()), ((), ())]
        shape = self.given(Shape, unknowns, rows)
        unknowns.append("z")
        unknowns[0] = "q"
        rows[0] = None
        rows.append(((), ("x",)))
        self.same(shape.unknowns, ("x", "y"))
        self.same(shape.rows, ((("x",), ()), ((), ())))
        self.assertEqual(str(shape), "x y; x; -")

    def test_a_shape_never_changes(self):
        shape = example()
        before = (shape.unknowns, shape.rows, str(shape))
        for call, arguments in [
            (shape.turned, []), (shape.without, [("x",)]), (shape.with_row, [(), ("y",)]), (shape.without_row, [0]),
            (shape.occurs, [0, "x"]), (shape.stands, ["x"]),
        ]:
            call(*arguments)
            self.same((shape.unknowns, shape.rows, str(shape)), before)
        for call, arguments in [
            (shape.without, [("q",)]), (shape.without, [("x", "y", "z")]), (shape.with_row, [("q",), ()]),
            (shape.without_row, [3]), (shape.occurs, [3, "x"]), (shape.stands, ["q"]),
        ]:
            with self.assertRaises(ValueError):
                call(*arguments)
            self.same((shape.unknowns, shape.rows, str(shape)), before)
        with self.assertRaises(AttributeError):
            shape.rows = ()
        with self.assertRaises(AttributeError):
            shape.unknowns = ("x",)


class Point16(PromiseCase):
    def test_properties(self):
        shape = example()
        self.same(shape.unknowns, ("x", "y", "z"))
        self.same(shape.rows, ((("x", "y"), ()), (("z",), ("x",)), ((), ())))

    def test_unknowns_come_in_ascending_order(self):
        for names in itertools.permutations(["a", "a1", "b", "ab"]):
            self.same(Shape(list(names), []).unknowns, ("a", "a1", "ab", "b"))

    def test_equal_shapes(self):
        for one in small_shapes():
            self.assertTrue(one == Shape(["y", "x"], one.rows))
            self.assertFalse(one != Shape(("y", "x"), list(one.rows)))
            self.assertTrue(one == copy.deepcopy(one))

    def test_unequal_shapes(self):
        found = list(small_shapes())
        self.assertEqual(len(found), 1 + 9 + 81)
        for at, one in enumerate(found):
            for other in found[:at] + found[at + 1:]:
                self.assertFalse(one == other)
                self.assertTrue(one != other)

    def test_the_order_of_the_rows_counts(self):
        one, other = (("x",), ()), ((), ())
        self.assertNotEqual(Shape(["x"], [one, other]), Shape(["x"], [other, one]))
        self.assertNotEqual(Shape(["x"], [one]), Shape(["x"], [one, one]))

    def test_the_unknowns_count_also_where_they_do_not_occur(self):
        self.assertNotEqual(Shape(["x"], [(("x",), ())]), Shape(["x", "y"], [(("x",), ())]))
        self.assertNotEqual(Shape(["x"], []), Shape(["y"], []))

    def test_no_value_of_another_kind_is_equal(self):
        shape = example()
        for value in ANY_VALUES + [str(shape), shape.rows, (shape.unknowns, shape.rows), ["x", "y", "z"], object()]:
            self.assertIs(shape == value, False)
            self.assertIs(value == shape, False)
            self.assertIs(shape != value, True)
            self.assertIs(value != shape, True)


class Point17(PromiseCase):
    def test_occurs(self):
        shape = example()
        found = [[shape.occurs(number, name) for name in "xyz"] for number in range(3)]
        self.same(found, [[True, True, False], [True, False, True], [False, False, False]])

    def test_occurs_of_every_small_shape(self):
        for shape in small_shapes():
            for number, (sure, perhaps) in enumerate(shape.rows):
                for name in shape.unknowns:
                    self.assertIs(self.given(shape.occurs, number, name), name in sure + perhaps)

    def test_stands(self):
        shape = example()
        self.same(shape.stands("x"), ((0,), (1,)))
        self.same(shape.stands("y"), ((0,), ()))
        self.same(shape.stands("z"), ((1,), ()))
        self.same(Shape(["x"], []).stands("x"), ((), ()))
        many = Shape(["x"], [(("x",), ()), ((), ("x",))] * 4)
        self.same(many.stands("x"), ((0, 2, 4, 6), (1, 3, 5, 7)))

    def test_stands_of_every_small_shape(self):
        for shape in small_shapes():
            for name in shape.unknowns:
                surely, perhaps = self.given(shape.stands, name)
                for number, row in enumerate(shape.rows):
                    self.assertEqual((number in surely, number in perhaps), (name in row[0], name in row[1]))
                self.assertEqual(list(surely), sorted(set(surely)))
                self.assertEqual(list(perhaps), sorted(set(perhaps)))

    def test_numbers_that_are_wrong(self):
        shape = Shape(["x"], [(("x",), ()), ((), ())])
        for value in NOT_NUMBERS_OF_TWO_ROWS:
            held = self.refused(BadNumber, "value", value, shape.occurs, value, "x")
            self.assertIs(held, value)
        self.refused(BadNumber, "value", 0, Shape(["x"], []).occurs, 0, "x")
        self.refused(BadNumber, "value", HUGE, shape.occurs, HUGE, "x")

    def test_unknowns_that_are_not_there(self):
        shape = example()
        for name in ["w", "", "X", "xy", "x y", "x\n", "toolong"]:
            self.assertIs(self.refused(UnknownName, "name", name, shape.occurs, 0, name), name)
            self.assertIs(self.refused(UnknownName, "name", name, shape.stands, name), name)

    def test_the_order_of_the_errors(self):
        shape = example()
        for number in [-1, 3, True, None]:
            self.refused(BadNumber, "value", number, shape.occurs, number, "w")
        self.refused(UnknownName, "name", "w", shape.occurs, 2, "w")

    def test_by_name(self):
        shape = example()
        self.assertIs(shape.occurs(name="x", number=1), True)
        self.same(shape.stands(name="x"), ((0,), (1,)))
        self.refused(BadNumber, "value", 3, shape.occurs, number=3, name="x")


class Point18(PromiseCase):
    def test_turned(self):
        self.assertEqual(str(example().turned()), "r0 r1 r2; r0 | r1; r0; r1")
        self.assertEqual(str(Shape(["x"], [((), ())]).turned()), "r0; -")
        self.assertEqual(str(Shape(["b", "a"], [(("b",), ("a",))]).turned()), "r0; - | r0; r0")

    def test_turned_of_every_small_shape(self):
        for shape in small_shapes():
            if not shape.rows:
                continue
            turned = shape.turned()
            self.same(turned.unknowns, tuple(f"r{number}" for number in range(len(shape.rows))))
            self.assertEqual(len(turned.rows), 2)
            for at, name in enumerate(shape.unknowns):
                for number, row in enumerate(shape.rows):
                    for part in (0, 1):
                        self.assertIs(f"r{number}" in turned.rows[at][part], name in row[part])

    def test_turned_of_the_largest_shape(self):
        shape = Shape(EIGHT, [(tuple(EIGHT[:at]), tuple(EIGHT[at:])) for at in range(8)])
        turned = shape.turned()
        names = ("r0", "r1", "r2", "r3", "r4", "r5", "r6", "r7")
        self.same(turned.unknowns, names)
        self.same(turned.rows, tuple((names[at + 1:], names[:at + 1]) for at in range(8)))

    def test_turned_without_rows(self):
        self.refused(BadCount, "count", 0, Shape(["x"], []).turned)
        self.refused(BadCount, "count", 0, Shape(EIGHT, []).turned)

    def test_without(self):
        shape = example()
        self.assertEqual(str(shape.without(("x", "z"))), "y; y; -; -")
        self.assertEqual(str(shape.without(("x",))), "y z; y; z; -")
        self.assertEqual(str(shape.without(("y",))), "x z; x; z | x; -")
        self.assertEqual(shape.without(()), shape)
        self.assertEqual(str(Shape(["x", "y"], []).without(("x",))), "y")

    def test_without_of_every_small_shape(self):
        for shape in small_shapes():
            for name, other in [("x", "y"), ("y", "x")]:
                left = self.given(shape.without, (name,))
                self.same(left.unknowns, (other,))
                self.assertEqual(len(left.rows), len(shape.rows))
                for number, (sure, perhaps) in enumerate(shape.rows):
                    wanted = ((other,) if other in sure else (), (other,) if other in perhaps else ())
                    self.same(left.rows[number], wanted)

    def test_without_any_value(self):
        shape = Shape(["x", "y"], [(("x",), ("y",))])
        for value in ANY_VALUES:
            if type(value) is tuple and value in [(), ("x",)]:
                self.assertEqual(shape.without(value).unknowns, tuple(name for name in "xy" if name not in value))
            elif type(value) is not tuple or value != ("x", "y"):
                self.assertIs(self.refused(BadSet, "value", value, shape.without, value), value)

    def test_without_all_unknowns(self):
        self.refused(BadCount, "count", 0, Shape(["x"], []).without, ("x",))
        self.refused(BadCount, "count", 0, example().without, ("x", "y", "z"))
        self.refused(BadSet, "value", ("x", "z", "y"), example().without, ("x", "z", "y"))
        self.refused(BadSet, "value", ["x", "y", "z"], example().without, ["x", "y", "z"])

    def test_by_name(self):
        self.assertEqual(str(example().without(wanted=("x", "z"))), "y; y; -; -")


class Point19(PromiseCase):
    def test_with_row(self):
        shape = example()
        self.assertEqual(str(shape.with_row((), ())), "x y z; x y; z | x; -; -")
        self.assertEqual(str(shape.with_row(("x", "z"), ("y",))), "x y z; x y; z | x; -; x z | y")
        self.assertEqual(str(Shape(["x"], []).with_row((), ("x",))), "x; - | x")
        self.assertEqual(str(shape.without_row(2).with_row((), ("y",))), "x y z; x y; z | x; - | y")

    def test_with_row_up_to_eight_rows(self):
        shape = Shape(["x"], [])
        for many in range(8):
            shape = shape.with_row(("x",), ())
            self.assertEqual(len(shape.rows), many + 1)
        self.refused(BadCount, "count", 9, shape.with_row, ("x",), ())
        self.refused(BadCount, "count", 9, shape.with_row, ("q",), None)
        self.assertEqual(len(shape.rows), 8)

    def test_with_row_of_any_values(self):
        shape = Shape(["x", "y"], [(("x",), ())])
        for sure in ANY_VALUES:
            for perhaps in [(), ("x",), ("y",), ["y"], None, sure]:
                row = (sure, perhaps)
                kinds = type(sure) is tuple and type(perhaps) is tuple
                if kinds and row in ROWS_OF_TWO:
                    self.same(self.given(shape.with_row, sure, perhaps).rows, ((("x",), ()), row))
                else:
                    held = self.refused(BadRow, "value", row, shape.with_row, sure, perhaps)
                    self.assertIs(held[0], sure)
                    self.assertIs(held[1], perhaps)

    def test_without_row(self):
        shape = example()
        self.assertEqual(str(shape.without_row(0)), "x y z; z | x; -")
        self.assertEqual(str(shape.without_row(1)), "x y z; x y; -")
        self.assertEqual(str(shape.without_row(2)), "x y z; x y; z | x")
        self.assertEqual(str(Shape(["x"], [((), ())]).without_row(0)), "x")

    def test_without_row_of_the_largest_shape(self):
        rows = [(tuple(EIGHT[:at]), tuple(EIGHT[at:])) for at in range(8)]
        shape = Shape(EIGHT, rows)
        for number in range(8):
            self.same(shape.without_row(number).rows, tuple(rows[:number] + rows[number + 1:]))
        self.refused(BadNumber, "value", 8, shape.without_row, 8)

    def test_numbers_that_are_wrong(self):
        shape = Shape(["x"], [(("x",), ()), ((), ())])
        for value in NOT_NUMBERS_OF_TWO_ROWS:
            self.assertIs(self.refused(BadNumber, "value", value, shape.without_row, value), value)
        self.refused(BadNumber, "value", 0, Shape(["x"], []).without_row, 0)

    def test_by_name(self):
        shape = example()
        self.assertEqual(str(shape.with_row(perhaps=("y",), sure=("x",)).without_row(number=0)),
                         "x y z; z | x; -; x | y")
        self.refused(BadRow, "value", (5, ()), shape.with_row, sure=5, perhaps=())
        self.refused(BadNumber, "value", -1, shape.without_row, number=-1)


class Interface(unittest.TestCase):
    ARGUMENTS = {
        "__init__": ["self", "unknowns", "rows"], "occurs": ["self", "number", "name"], "stands": ["self", "name"],
        "turned": ["self"], "without": ["self", "wanted"], "with_row": ["self", "sure", "perhaps"],
        "without_row": ["self", "number"],
    }

    def test_methods_stand_in_the_class_itself(self):
        for name, arguments in self.ARGUMENTS.items():
            self.assertEqual(list(inspect.signature(vars(Shape)[name]).parameters), arguments)
        for name in ["__eq__", "__str__"]:
            self.assertIn(name, vars(Shape))
        for name in ["unknowns", "rows"]:
            self.assertIsInstance(vars(Shape)[name], property)
        self.assertIsInstance(vars(Shape)["read"], classmethod)
        self.assertEqual(list(inspect.signature(Shape.read).parameters), ["text"])
        self.assertEqual(Shape.__module__, "anyfactors.shapes")


if __name__ == "__main__":
    unittest.main()
