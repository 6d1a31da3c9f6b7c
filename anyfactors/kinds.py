"""Kinds: whether an unknown follows always, sometimes or never, and what shows that it follows at all."""

from anyfactors.errors import IsRead, NotMixed
from anyfactors.factors import factors_of, fits
from anyfactors.shapes import check_set, check_unknown, is_integer, is_row_number, names_without
from anyfactors.steps import found_by, reached


def _check_unread(shape, readings, name):
    check_set(shape.unknowns, readings)
    check_unknown(shape.unknowns, name)
    if name in readings:
        raise IsRead(name)


def _possible_strikes(places, struck):
    # Rows and unknowns change places here: an unknown finds the one row that is left to it, as a row does a step.
    return sorted([(number, name) for name in places for number in found_by(places[name], struck)])


def _strikes_of(shape, strikers):
    """List the strikes that these unknowns make, each the first possible one, as long as one is possible."""
    places = {name: shape.stands(name) for name in strikers}
    strikes = []
    struck = []
    possible = _possible_strikes(places, struck)
    while possible:
        strikes.append(possible[0])
        struck.append(possible[0][0])
        possible = _possible_strikes(places, struck)
    return strikes


def unstruck_rows(shape, readings, wanted):
    """List the rows that are left by the strikes of the unread unknowns that are not among the wanted ones."""
    strikes = _strikes_of(shape, names_without(shape.unknowns, [*readings, *wanted]))
    struck = [number for number, _ in strikes]
    return [number for number in range(len(shape.rows)) if number not in struck]


def occurs_in(shape, numbers, name):
    """Tell whether the unknown occurs in one of the rows with these numbers."""
    surely, perhaps = shape.stands(name)
    return any([number in numbers for number in surely + perhaps])


def _column(places, left, wanted):
    """Return factors for an unknown, as a dict from its rows, that add up to a number over the rows that are left."""
    surely, perhaps = places
    # This sign keeps the last factor, which makes up the rest, from becoming 0 where the unknown stands surely.
    unit = -1 if wanted > 0 else 1
    table = {number: unit if number in surely else 0 for number in surely + perhaps}
    loose = [number for number in surely + perhaps if number in left]
    if loose:
        table[loose[-1]] += wanted - unit * len([number for number in loose if number in surely])
    return table


def mixed(shape, readings, weights):
    """Return factors and multipliers of 0 or 1 with which the rows add up to just these weights.

    These are the weights of a sum that does not follow never. What is read may add up to anything.
    """
    left = unstruck_rows(shape, readings, weights)
    factors = {}
    for name in shape.unknowns:
        balanced = [] if name in readings else left
        column = _column(shape.stands(name), balanced, weights.get(name, 0))
        for number, factor in column.items():
            factors[(number, name)] = factor
    return factors, [1 if number in left else 0 for number in range(len(shape.rows))]


def added_up(shape, factors, multipliers):
    """Return a dict from each unknown to the sum over the rows, multiplier times factor."""
    return {
        name: sum([factor * times for factor, times in zip(factors_of(shape, factors, name), multipliers)])
        for name in shape.unknowns
    }


def are_multipliers(shape, value):
    """Tell whether a list or a tuple of any values has an integer for each row."""
    return len(value) == len(shape.rows) and all([is_integer(item) for item in value])


def strikes_for(shape, readings, name):
    """List the strikes for the unknown, each the first possible one, up to the point where none is possible."""
    _check_unread(shape, readings, name)
    return _strikes_of(shape, names_without(shape.unknowns, (*readings, name)))


def left_rows(shape, readings, name):
    """List the numbers of the rows that are not in the strikes for the unknown."""
    _check_unread(shape, readings, name)
    return unstruck_rows(shape, readings, (name,))


def mixing(shape, readings, name):
    """Return factors, and multipliers of 0 or 1, that give the unknown alone."""
    _check_unread(shape, readings, name)
    if not occurs_in(shape, unstruck_rows(shape, readings, (name,)), name):
        raise NotMixed(name)
    return mixed(shape, readings, {name: 1})


def check_mixing(shape, readings, name, factors, multipliers):
    """Tell whether the factors and multipliers give the unknown alone."""
    _check_unread(shape, readings, name)
    if not fits(shape, factors) or not are_multipliers(shape, multipliers):
        return False
    sums = added_up(shape, factors, multipliers)
    others = names_without(shape.unknowns, (*readings, name))
    return sums[name] != 0 and not any([sums[other] for other in others])


def _is_strike(shape, strikers, struck, value):
    """Tell whether any value is a strike of one of these unknowns that can be made behind those of the struck rows."""
    if not isinstance(value, tuple) or len(value) != 2:
        return False
    number, name = value
    if not is_row_number(shape.rows, number) or name not in strikers:
        return False
    return found_by(shape.stands(name), struck) == [number]


def check_strikes(shape, readings, name, strikes):
    """Tell whether the list of any values is a list of strikes that leave no row with the unknown."""
    _check_unread(shape, readings, name)
    strikers = names_without(shape.unknowns, (*readings, name))
    struck = []
    for strike in strikes:
        if not _is_strike(shape, strikers, struck, strike):
            return False
        struck.append(strike[0])
    surely, perhaps = shape.stands(name)
    return all([number in struck for number in surely + perhaps])


def _kind_beyond(shape, readings, known, name):
    """Return the kind of an unknown, where these are known to follow always."""
    if name in known:
        return "always"
    return "sometimes" if occurs_in(shape, unstruck_rows(shape, readings, (name,)), name) else "never"


def kind_of(shape, readings, name):
    """Return the kind of the unknown: always, sometimes or never."""
    check_set(shape.unknowns, readings)
    check_unknown(shape.unknowns, name)
    return _kind_beyond(shape, readings, reached(shape, readings), name)


def kinds(shape, readings):
    """Return the dict of the kinds of all unknowns."""
    known = reached(shape, readings)
    return {name: _kind_beyond(shape, readings, known, name) for name in shape.unknowns}
