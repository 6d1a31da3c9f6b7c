"""Steps, which find the values of unknowns one after another, whatever the factors are."""

from math import gcd

from anyfactors.errors import BadCount, BadSteps, NotReached
from anyfactors.factors import check_factors, check_integers, check_keys
from anyfactors.shapes import check_set, check_unknown, is_row_number


def found_by(row, known):
    """List the unknown that a step finds by this row, if one does."""
    sure, perhaps = row
    new = [name for name in sure + perhaps if name not in known]
    return new if len(new) == 1 and new[0] in sure else []


def _is_possible(shape, known, value):
    """Tell whether any value is a step that can be made when these unknowns are known."""
    if not isinstance(value, tuple) or len(value) != 2:
        return False
    number, name = value
    return is_row_number(shape.rows, number) and found_by(shape.rows[number], known) == [name]


def check_steps(shape, readings, steps):
    """Tell whether the list of any values is a list of steps that is valid for the readings."""
    check_set(shape.unknowns, readings)
    known = list(readings)
    for step in steps:
        if not _is_possible(shape, known, step):
            return False
        known.append(step[1])
    return True


def _possible_steps(shape, known):
    return [(number, name) for number, row in enumerate(shape.rows) for name in found_by(row, known)]


def steps_from(shape, readings):
    """List the steps, each by the lowest row that is possible then, up to the point where none is possible."""
    check_set(shape.unknowns, readings)
    known = list(readings)
    steps = []
    possible = _possible_steps(shape, known)
    while possible:
        steps.append(possible[0])
        known.append(possible[0][1])
        possible = _possible_steps(shape, known)
    return steps


def reached(shape, readings):
    """Return the set of the readings and of all unknowns to which steps lead."""
    found = [name for _, name in steps_from(shape, readings)]
    return tuple(sorted([*readings, *found]))


def steps_to(shape, readings, name):
    """List steps that lead to the unknown, and no needless ones."""
    check_set(shape.unknowns, readings)
    check_unknown(shape.unknowns, name)
    if name not in reached(shape, readings):
        raise NotReached(name)
    kept = []
    needed = [name]
    # From the last step to the first one, since only later steps need a step.
    for number, found in reversed(steps_from(shape, readings)):
        if found in needed:
            kept = [(number, found), *kept]
            sure, perhaps = shape.rows[number]
            needed.extend(sure + perhaps)
    return kept


def always(shape, readings, name):
    """Tell whether the unknown follows from the readings with all factors."""
    check_set(shape.unknowns, readings)
    check_unknown(shape.unknowns, name)
    return name in reached(shape, readings)


def _lowest(top, bottom):
    """Return the fraction in lowest terms, with a bottom above 0."""
    common = gcd(top, bottom)
    if bottom < 0:
        common = -common
    return top // common, bottom // common


def _solved(shape, factors, side, step, values):
    """Return the fraction that the unknown of the step must be, so that its row adds up to the side."""
    number, name = step
    sure, perhaps = shape.rows[number]
    top, bottom = side, 1
    for other in sure + perhaps:
        if other != name:
            times, parts = values[other]
            top, bottom = top * parts - factors[(number, other)] * times * bottom, bottom * parts
    return _lowest(top, bottom * factors[(number, name)])


def followed(shape, factors, sides, known, steps):
    """Return the values of the readings and of the unknowns of the steps, as fractions."""
    check_factors(shape, factors)
    if len(sides) != len(shape.rows):
        raise BadCount(len(sides))
    check_integers(sides)
    check_keys(shape.unknowns, known)
    readings = tuple(sorted(known))
    check_integers([known[name] for name in readings])
    if not check_steps(shape, readings, steps):
        raise BadSteps(steps)
    values = {name: (known[name], 1) for name in readings}
    for number, name in steps:
        values[name] = _solved(shape, factors, sides[number], (number, name), values)
    return values
