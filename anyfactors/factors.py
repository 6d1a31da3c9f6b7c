"""Factors for a shape, and what follows from readings with them."""

from math import gcd

from anyfactors.errors import BadCount, BadFactors, BadNumber
from anyfactors.shapes import check_set, check_unknown, is_integer, names_without


def fits(shape, factors):
    """Tell whether the dict gives factors for the shape."""
    places = [(number, name) for number, row in enumerate(shape.rows) for name in row[0] + row[1]]
    if len(factors) != len(places) or not all([place in factors for place in places]):
        return False
    # Among the keys, too, True and False would pass as 1 and 0.
    if not all([is_integer(number) for number, _ in factors]):
        return False
    if not all([is_integer(factor) for factor in factors.values()]):
        return False
    return all([factors[(number, name)] != 0 for number, row in enumerate(shape.rows) for name in row[0]])


def check_factors(shape, factors):
    """Raise an error if the dict does not give factors for the shape."""
    if not fits(shape, factors):
        raise BadFactors(factors)


def check_keys(names, table):
    """Raise an error if a key of the dict, the first in ascending order, is not one of these names."""
    for key in sorted(table):
        check_unknown(names, key)


def check_integers(values):
    """Raise an error if one of the values, the first one, is not an integer."""
    for value in values:
        if not is_integer(value):
            raise BadNumber(value)


def row_sums(shape, factors, values):
    """List for each row the sum of the factors times the values of its unknowns."""
    check_factors(shape, factors)
    check_keys(shape.unknowns, values)
    if len(values) < len(shape.unknowns):
        raise BadCount(len(values))
    check_integers([values[name] for name in shape.unknowns])
    return [
        sum([factors[(number, name)] * values[name] for name in sure + perhaps])
        for number, (sure, perhaps) in enumerate(shape.rows)
    ]


def factors_of(shape, factors, name):
    """List for each row its factor of the unknown, 0 where it does not occur."""
    return [factors.get((number, name), 0) for number in range(len(shape.rows))]


def _shortened(numbers):
    """Divide the numbers by their greatest common divisor: else they would grow with each column."""
    common = 0
    for number in numbers:
        common = gcd(common, number)
    return [number // common for number in numbers] if common > 1 else numbers


def _left_over(lines, width):
    """Add up multiples of the lines, until all lines that are left are 0 in the first columns.

    One line is lost for each column that is no sum of multiples of those before it.
    """
    left = lines
    for at in range(width):
        using = [line for line in left if line[at] != 0]
        left = [line for line in left if line[at] == 0]
        for later in using[1:]:
            mixed = [using[0][at] * one - later[at] * other for one, other in zip(later, using[0])]
            left.append(_shortened(mixed))
    return left


def _combined(lines, width):
    """Return an integer for each line, with which they add up to 0 in the first columns, but not in the one behind.

    Return None if there are no such integers.
    """
    many = len(lines)
    # Behind its own columns each line tells how it was made of the lines that were given.
    told = [[*line, *[1 if at == number else 0 for at in range(many)]] for number, line in enumerate(lines)]
    for found in _left_over(told, width):
        if found[width] != 0:
            return found[width + 1:]
    return None


def _check_question(shape, factors, readings, name):
    check_factors(shape, factors)
    check_set(shape.unknowns, readings)
    check_unknown(shape.unknowns, name)


def hidden_with(shape, factors, readings, name):
    """Return a hidden solution with these factors in which the unknown is not 0, or None."""
    _check_question(shape, factors, readings, name)
    if name in readings:
        return None
    unread = names_without(shape.unknowns, readings)
    # Each unread unknown is a line here, so that the integers of the lines are the values of the unknowns.
    lines = [[*factors_of(shape, factors, other), 1 if other == name else 0] for other in unread]
    found = _combined(lines, len(shape.rows))
    if found is None:
        return None
    values = {other: 0 for other in shape.unknowns}
    for at, value in enumerate(found):
        values[unread[at]] = value
    return values


def multipliers_with(shape, factors, readings, name):
    """Return multipliers of the rows with which they add up to the unknown alone, or None."""
    _check_question(shape, factors, readings, name)
    if name in readings:
        return [0 for _ in shape.rows]
    others = names_without(shape.unknowns, (*readings, name))
    columns = [factors_of(shape, factors, other) for other in [*others, name]]
    lines = [[column[number] for column in columns] for number in range(len(shape.rows))]
    return _combined(lines, len(others))


def follows_with(shape, factors, readings, name):
    """Tell whether the unknown follows from the readings with these factors."""
    return hidden_with(shape, factors, readings, name) is None


def rank_with(shape, factors, readings):
    """Return the rank of the rows, each taken as the list of its factors of the unread unknowns."""
    check_factors(shape, factors)
    check_set(shape.unknowns, readings)
    lines = [factors_of(shape, factors, name) for name in names_without(shape.unknowns, readings)]
    # The rank of the columns, one for each row, is that of the rows.
    return len(lines) - len(_left_over(lines, len(shape.rows)))
