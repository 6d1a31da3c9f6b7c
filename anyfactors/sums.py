"""Sums of unknowns with weights: what follows of them, and what shows it."""

from anyfactors.errors import BadSum, SumFollows, SumNever
from anyfactors.factors import check_keys, fits
from anyfactors.hiding import factors_hiding, is_hidden
from anyfactors.kinds import added_up, are_multipliers, mixed, occurs_in, unstruck_rows
from anyfactors.shapes import check_set, is_integer, names_without
from anyfactors.steps import reached


def _is_weight(value):
    return is_integer(value) and value != 0


def _check_sum(shape, readings, weights):
    check_set(shape.unknowns, readings)
    check_keys(shape.unknowns, weights)
    if not weights or not all([_is_weight(weight) for weight in weights.values()]):
        raise BadSum(weights)


def _summed(weights, values):
    """Return the value of the sum."""
    return sum([weight * values[name] for name, weight in weights.items()])


def _kind_of_sum(shape, readings, weights):
    if not names_without(weights, reached(shape, readings)):
        return "always"
    left = unstruck_rows(shape, readings, weights)
    unread = names_without(weights, readings)
    return "sometimes" if all([occurs_in(shape, left, name) for name in unread]) else "never"


def sum_kind(shape, readings, weights):
    """Return the kind of the sum: always, sometimes or never."""
    _check_sum(shape, readings, weights)
    return _kind_of_sum(shape, readings, weights)


def sum_hiding(shape, readings, weights):
    """Return factors, and a hidden solution with them, in which the sum is not 0."""
    _check_sum(shape, readings, weights)
    known = reached(shape, readings)
    values = {name: 0 if name in known else 1 for name in shape.unknowns}
    hidden = [name for name in shape.unknowns if name in weights and name not in known]
    if not hidden:
        raise SumFollows(weights)
    if _summed(weights, values) == 0:
        # The weights of what is hidden cancel out, so one of these unknowns needs a value of its own.
        values[hidden[0]] = 2
    return factors_hiding(shape, values), values


def check_sum_hiding(shape, readings, weights, factors, values):
    """Tell whether the factors and values are a hidden solution of the readings in which the sum is not 0."""
    _check_sum(shape, readings, weights)
    return is_hidden(shape, readings, factors, values) and _summed(weights, values) != 0


def sum_mixing(shape, readings, weights):
    """Return factors, multipliers of 0 or 1, and times: with these the rows add up to the sum, times over."""
    _check_sum(shape, readings, weights)
    if _kind_of_sum(shape, readings, weights) == "never":
        raise SumNever(weights)
    factors, multipliers = mixed(shape, readings, weights)
    # The factors are free, so they can always be chosen to make up the weights themselves.
    return factors, multipliers, 1


def check_sum_mixing(shape, readings, weights, factors, multipliers, times):
    """Tell whether the factors and multipliers make up the sum, times over."""
    _check_sum(shape, readings, weights)
    if not fits(shape, factors) or not are_multipliers(shape, multipliers) or not _is_weight(times):
        return False
    sums = added_up(shape, factors, multipliers)
    unread = names_without(shape.unknowns, readings)
    return all([sums[name] == weights.get(name, 0) * times for name in unread])
