"""Shapes, factors and readings for the tests, and sums and ranks worked out without the package."""

import itertools
import random
from fractions import Fraction

from anyfactors.shapes import Shape, all_sets
from checks import ANY_VALUES

EIGHT = ("a", "b1", "b2", "c", "flow1", "x", "y", "z")
LARGE = 10 ** 12

# Shapes at the edges: 1 and 8 unknowns, 0 and 8 rows, empty rows, rows of perhaps unknowns alone, equal rows.
EDGES = [
    "x",
    "x; -",
    "x; x",
    "x; - | x",
    "x; x; x",
    "x; -; -; -; -; -; -; -; x",
    "x y; - | x y; - | x y",
    "x y z",
    "x y z; -; x | y z; x | y z; -; y z",
    "x y z; x y; y z; z | x",
    "w x y z; x y; x y; w y z",
    "a b c d e f g h",
    "a b c d e f g h; -; -; -; -; -; -; -; -",
    "a b c d e f g h; a b c d e f g h; a b c d e f g h",
    "a b c d e f g h; a; a b; b c; c d; d e; e f; f g; g h",
    "a b c d e f g h; g h; f g; e f; d e; c d; b c; a b; a h",
    "a b c d e f g h; - | a b c d e f g h; a b c d | e f g h; h | a; e f g | h; c d; c d; - | b; d",
]


def edge_shapes():
    return [Shape.read(text) for text in EDGES]


def rows_over(names):
    """All rows over these names."""
    for places in itertools.product((0, 1, 2), repeat=len(names)):
        yield tuple(
            tuple(name for name, place in zip(names, places) if place == part) for part in (1, 2)
        )


def shapes_over(names, most):
    """All shapes with these unknowns and at most so many rows, but for the order of the rows."""
    for many in range(most + 1):
        for rows in itertools.combinations_with_replacement(list(rows_over(names)), many):
            yield Shape(names, rows)


def places(shape):
    return [(number, name) for number, (sure, perhaps) in enumerate(shape.rows) for name in sure + perhaps]


def factors_over(shape, numbers):
    """All factors for the shape that are among these numbers."""
    keys = places(shape)
    ranges = [[one for one in numbers if one != 0 or name not in shape.rows[number][0]] for number, name in keys]
    for chosen in itertools.product(*ranges):
        yield dict(zip(keys, chosen))


def some_factors(shape, chance, size=3):
    """Factors with tops up to this size, many of them alike or 0."""
    found = {}
    for number, name in places(shape):
        worth = chance.randint(-size, size)
        while worth == 0 and name in shape.rows[number][0]:
            worth = chance.randint(-size, size)
        found[(number, name)] = worth
    return found


def some_shape(chance, names=EIGHT, most=8):
    many = chance.randint(0, most)
    thin = chance.choice((2, 3, 5))
    rows = []
    for _ in range(many):
        marks = {name: chance.randrange(thin) for name in names}
        rows.append((
            tuple(name for name in names if marks[name] == 0),
            tuple(name for name in names if marks[name] == 1 and chance.random() < 0.5),
        ))
    return Shape(names, rows)


def some_cases(many, seed):
    """Shapes, factors for them, and readings, up to the largest sizes, the same ones each time."""
    chance = random.Random(seed)
    for at in range(many):
        names = EIGHT[:chance.randint(1, 8)]
        shape = some_shape(chance, names)
        factors = some_factors(shape, chance, chance.choice((1, 3, LARGE)))
        if at in range(0, many, 3):
            factors = with_multiples(shape, factors, chance)
        yield shape, factors, tuple(name for name in names if chance.random() < 0.3)


def with_multiples(shape, factors, chance):
    """Factors in which rows with the same unknowns are multiples of one another."""
    found = dict(factors)
    first = {}
    for number, (sure, perhaps) in enumerate(shape.rows):
        source = first.setdefault(frozenset(sure + perhaps), number)
        times = chance.choice((-LARGE, -2, 1, 3, LARGE))
        for name in sure + perhaps:
            worth = factors[(source, name)] * times
            if source != number and (worth != 0 or name in perhaps):
                found[(number, name)] = worth
    return found


def matrix(shape, factors, names):
    return [[factors.get((number, name), 0) for name in names] for number in range(len(shape.rows))]


def unread(shape, readings):
    return [name for name in shape.unknowns if name not in readings]


def rank(rows):
    """The rank of rows of integers."""
    left = [[Fraction(item) for item in row] for row in rows]
    many = 0
    for at in range(len(left[0]) if left else 0):
        using = next((row for row in left if row[at] != 0), None)
        if using is None:
            continue
        many += 1
        left = [
            [one - row[at] / using[at] * other for one, other in zip(row, using)]
            for row in left if row is not using
        ]
    return many


def raises_rank(shape, factors, readings, name):
    """Whether the unknown raises the rank of the other unread unknowns."""
    names = unread(shape, readings)
    others = [other for other in names if other != name]
    return rank(matrix(shape, factors, names)) > rank(matrix(shape, factors, others))


def sums_by_hand(shape, factors, values):
    """The sum of the factors times the values, for each row."""
    return [
        sum(worth * values[name] for (at, name), worth in factors.items() if at == number)
        for number in range(len(shape.rows))
    ]


def not_sets(names):
    """Values of all kinds that are no sets of these names."""
    right = all_sets(names)
    return [value for value in ANY_VALUES if not (type(value) is tuple and value in right)]


NOT_INTEGERS = [value for value in ANY_VALUES if type(value) is not int]
NOT_UNKNOWNS = ["", "w1", "X", "xy", "x y", "x ", "x\n", "toolong", "0", "-"]


def wrong_factors(shape, factors):
    """Dicts with integers and strings as keys that do not fit the shape, made from factors that do."""
    found = [{**factors, (len(shape.rows), name): 1} for name in shape.unknowns[:1]]
    found += [{**factors, (-1, name): 1} for name in shape.unknowns[:1]]
    found += [{**factors, (number, "nil"): 1} for number in range(len(shape.rows))]
    for number, (sure, perhaps) in enumerate(shape.rows):
        found += [{**factors, (number, name): 1} for name in shape.unknowns if name not in sure + perhaps]
        found += [{**factors, (number, name): 0} for name in sure]
        for name in sure + perhaps:
            found.append({key: factors[key] for key in factors if key != (number, name)})
            found += [{**factors, (number, name): value} for value in NOT_INTEGERS]
    if factors:
        found.append({})
    return found
