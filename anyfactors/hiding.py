"""Hidden solutions: what the readings do not show."""

from anyfactors.errors import FactorError, Reached
from anyfactors.factors import row_sums
from anyfactors.shapes import all_sets, check_set, check_unknown, names_without
from anyfactors.steps import reached


def _balanced(row, values):
    """Return factors for the row, as a dict from its unknowns, with which values not below 0 add up to 0."""
    sure, perhaps = row
    loose = [name for name in sure + perhaps if values[name] != 0]
    if not loose:
        return {name: 1 if name in sure else 0 for name in sure + perhaps}
    # A sure one is the last only if there are two of them or more, so its factor does not become 0.
    last = loose[-1]
    table = {name: values[last] if name in sure else 0 for name in sure + perhaps}
    table[last] -= sum([values[name] for name in sure])
    return table


def factors_hiding(shape, values):
    """Return factors with which the values, not below 0, and 0 for just what is reached, are a hidden solution."""
    factors = {}
    for number, row in enumerate(shape.rows):
        for name, factor in _balanced(row, values).items():
            factors[(number, name)] = factor
    return factors


def hiding(shape, readings, name):
    """Return factors, and a hidden solution with them of zeros and ones, in which the unknown is 1."""
    check_set(shape.unknowns, readings)
    check_unknown(shape.unknowns, name)
    known = reached(shape, readings)
    if name in known:
        raise Reached(name)
    values = {other: 0 if other in known else 1 for other in shape.unknowns}
    return factors_hiding(shape, values), values


def is_hidden(shape, readings, factors, values):
    """Tell whether the factors fit the shape, and the values are a hidden solution of the readings with them."""
    try:
        sums = row_sums(shape, factors, values)
    except FactorError:
        return False
    return not any(sums) and not any([values[name] for name in readings])


def check_hiding(shape, readings, name, factors, values):
    """Tell whether the factors and values are a hidden solution of the readings in which the unknown is not 0."""
    check_set(shape.unknowns, readings)
    check_unknown(shape.unknowns, name)
    return is_hidden(shape, readings, factors, values) and values[name] != 0


def _can_hide(row, wanted):
    """Tell whether the row can add up to 0 if just these unknowns have values other than 0."""
    sure, perhaps = row
    inside = [name for name in sure + perhaps if name in wanted]
    return len(inside) != 1 or inside[0] in perhaps


def hidden_sets(shape, readings):
    """List the sets of unknowns that can be all those that are not 0 in a hidden solution."""
    check_set(shape.unknowns, readings)
    unread = names_without(shape.unknowns, readings)
    # The first of all sets is the empty one.
    return [wanted for wanted in all_sets(unread)[1:] if all([_can_hide(row, wanted) for row in shape.rows])]
