"""Point 20: the texts of shapes."""

import re
import unittest

from anyfactors.errors import BadText
from anyfactors.shapes import Shape
from checks import PromiseCase
from test_shapes import EIGHT, small_shapes

NAME = "[a-z][a-z0-9]{0,5}"
NAMES = f"{NAME}(?: {NAME})*"
TEXT = re.compile(f"({NAMES})((?:; (?:-|{NAMES})(?: [|] {NAMES})?)*)")

SAMPLES = [
    "x y z; x y; z | x; -; - | y",
    "x",
    "x; -",
    "x; x",
    "x; - | x",
    "a b1 flow12; a | b1 flow12; b1 flow12",
    "x y; x y; x | y; y | x; - | x y; -; x; y; - | x",
    "a b c d e f g h; a b c d | e f g h; a b c d e f g h; - | a b c d e f g h",
]
SIGNS = ["x", "y", "z", "a", "1", "9", "X", " ", ";", "|", "-", "\n", "; ", " | ", ",", "_"]


def rising(words):
    return all(before < after for before, after in zip(words, words[1:]))


def row_is_right(unknowns, text):
    sure, _, perhaps = text.partition(" | ")
    sure = [] if sure == "-" else sure.split(" ")
    perhaps = perhaps.split(" ") if perhaps else []
    known = all(name in unknowns for name in sure + perhaps)
    return known and rising(sure) and rising(perhaps) and not set(sure) & set(perhaps)


def is_text(text):
    """Whether this is the text of a shape, told from its letters alone."""
    found = TEXT.fullmatch(text)
    if found is None:
        return False
    unknowns = found.group(1).split(" ")
    rows = found.group(2).split("; ")[1:]
    if len(unknowns) > 8 or len(rows) > 8 or not rising(unknowns):
        return False
    return all(row_is_right(unknowns, row) for row in rows)


def changed(text):
    """Texts that are nearly this text."""
    for at in range(len(text) + 1):
        for sign in SIGNS:
            yield text[:at] + sign + text[at:]
            yield text[:at] + sign + text[at + 1:]
        yield text[:at] + text[at + 1:]
        yield text[:at] + text[at + 1:at + 2] + text[at:at + 1] + text[at + 2:]
        yield text[:at]
        yield text[at:]


class Point20(PromiseCase):
    def test_texts(self):
        self.assertEqual(
            str(Shape(["z", "y", "x"], [(("x", "y"), ()), (("z",), ("x",)), ((), ()), ((), ("y",))])),
            "x y z; x y; z | x; -; - | y",
        )
        self.assertEqual(str(Shape(["x"], [])), "x")
        self.assertEqual(str(Shape(["b", "a1", "a"], [((), ()), ((), ("a", "a1"))])), "a a1 b; -; - | a a1")

    def test_example(self):
        shape = Shape(["y", "x", "z"], [(("x", "y"), ()), (("z",), ("x",)), ((), ())])
        self.assertEqual(
            [str(shape), shape.occurs(1, "x"), shape.stands("x"), str(shape.without(("x", "z")))],
            ["x y z; x y; z | x; -", True, ((0,), (1,)), "y; y; -; -"],
        )
        self.assertEqual(
            [str(shape.turned()), str(shape.without_row(2).with_row((), ("y",)))],
            ["r0 r1 r2; r0 | r1; r0; r1", "x y z; x y; z | x; - | y"],
        )

    def test_reading_what_was_read(self):
        shape = Shape.read("x y z; x y; z | x; -; - | y")
        self.same(shape.unknowns, ("x", "y", "z"))
        self.same(shape.rows, ((("x", "y"), ()), (("z",), ("x",)), ((), ()), ((), ("y",))))
        for text in SAMPLES:
            self.assertIs(is_text(text), True)
            self.assertEqual(str(self.given(Shape.read, text)), text)

    def test_every_small_shape(self):
        texts = []
        for shape in small_shapes():
            texts.append(str(shape))
            self.assertIs(type(str(shape)), str)
            self.assertIs(is_text(str(shape)), True)
            self.assertTrue(Shape.read(str(shape)) == shape)
        self.assertEqual(len(set(texts)), len(texts))

    def test_the_largest_shapes(self):
        names = [f"name{at}a" for at in range(8)]
        rows = [(tuple(names[:at]), tuple(names[at:])) for at in range(8)]
        shape = Shape(names, rows)
        self.assertTrue(Shape.read(str(shape)) == shape)
        self.refused(BadText, "text", str(shape) + "; -", Shape.read, str(shape) + "; -")
        self.assertEqual(str(Shape.read(" ".join(EIGHT))), " ".join(EIGHT))
        self.refused(BadText, "text", "a b c d e f g h i", Shape.read, "a b c d e f g h i")
        self.refused(BadText, "text", "x" + "; -" * 9, Shape.read, "x" + "; -" * 9)

    def test_texts_that_are_not_those_of_shapes(self):
        for text in [
            "", " ", "\n", ";", "; ", "-", "; -", "|", " | ", "- | x", "X", "1x", "toolong", "x\n", "\nx", "x ", " x",
            "y x", "x x", "x  y", "x;", "x; ", "x;-", "x ;-", "x; -;", "x; -; ", "x;  -", "x; - ", "x; -\n", "x\n; -",
            "x; x\n", "x; y", "x; x x", "x y; y x", "x y; x  y", "x; x |", "x; x | ", "x; x | -", "x; - | -", "x; | x",
            "x;  | x", "x; x | x", "x; -| x", "x; - |x", "x; -  | x", "x; - |  x", "x; - | x ", "x; - | x\n", "x; - | y",
            "x y; x | y | x", "x y; - | y x", "x y; - | x x", "x y; x - | y", "x y; - x", "x; --", "x; - -", "x, y",
            "x y; x | x y", "x y; x y | x", "x\ny", "x; x; y", "y x; -", "x y; x;y", "x y; x; y;",
        ]:
            self.assertIs(is_text(text), False, text)
            self.assertIs(self.refused(BadText, "text", text, Shape.read, text), text)

    def test_texts_that_are_nearly_those_of_shapes(self):
        kept, refused = 0, 0
        for sample in SAMPLES:
            for text in changed(sample):
                if is_text(text):
                    kept += 1
                    self.assertEqual(str(Shape.read(text)), text)
                else:
                    refused += 1
                    self.refused(BadText, "text", text, Shape.read, text)
        self.assertGreater(kept, 100)
        self.assertGreater(refused, 1000)

    def test_by_name_and_from_a_shape(self):
        shape = Shape.read(text="x y; x | y")
        self.assertTrue(shape == Shape(["x", "y"], [(("x",), ("y",))]))
        self.assertTrue(shape.read("x") == Shape(["x"], []))
        self.refused(BadText, "text", "", Shape.read, text="")


if __name__ == "__main__":
    unittest.main()
