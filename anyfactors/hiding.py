"""Hidden solutions: what the readings do not show."""

from anyfactors.errors import FactorError, Reached
from anyfactors.factors import row_sums
from anyfactors.shapes import all_sets, check_set, check_unknown
from anyfactors.steps import reached


def _balanced(row, hidden):
    """Return factors for the row, as a dict from its unknowns, that add up to 0 over the hidden unknowns."""
    sure, perhaps = row
    table = {name: 1 if name in sure else 0 for name in sure + perhaps}
    loose = [name for name in sure + perhaps if name in hidden]
    if loose:
        # A sure one is the last only if there are two of them or more, so its factor does not become 0.
        table[loose[-1]] -= len([name for name in loose if name in sure])
    return table


def hiding(shape, readings, name):
    """Return factors, and a hidden solution with them of zeros and ones, in which the unknown is 1."""
    check_set(shape.unknowns, readings)
    check_unknown(shape.unknowns, name)
    known = reached(shape, readings)
    if name in known:
        raise Reached(name)
    hidden = [other for other in shape.unknowns if other not in known]
    factors = {}
    for number, row in enumerate(shape.rows):
        for other, factor in _balanced(row, hidden).items():
            factors[(number, other)] = factor
    return factors, {other: 1 if other in hidden else 0 for other in shape.unknowns}


def check_hiding(shape, readings, name, factors, values):
    """Tell whether the factors and values are a hidden solution of the readings in which the unknown is not 0."""
    check_set(shape.unknowns, readings)
    check_unknown(shape.unknowns, name)
    try:
        sums = row_sums(shape, factors, values)
    except FactorError:
        return False
    return not any(sums) and not any([values[other] for other in readings]) and values[name] != 0


def _can_hide(row, wanted):
    """Tell whether the row can add up to 0 if just these unknowns have values other than 0."""
    sure, perhaps = row
    inside = [name for name in sure + perhaps if name in wanted]
    return len(inside) != 1 or inside[0] in perhaps


def hidden_sets(shape, readings):
    """List the sets of unknowns that can be all those that are not 0 in a hidden solution."""
    check_set(shape.unknowns, readings)
    unread = tuple([name for name in shape.unknowns if name not in readings])
    # The first of all sets is the empty one.
    return [wanted for wanted in all_sets(unread)[1:] if all([_can_hide(row, wanted) for row in shape.rows])]
