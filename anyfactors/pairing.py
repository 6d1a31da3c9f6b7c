"""Pairings of the unread unknowns with rows: whether all of them follow with some factors."""

from anyfactors.errors import NoPairing
from anyfactors.shapes import check_set, is_row_number, is_set, names_without


def _rows_with(shape, name):
    """List the numbers of the rows in which the unknown occurs."""
    surely, perhaps = shape.stands(name)
    return sorted(surely + perhaps)


def _settle(shape, holders, asked, name):
    """Give the unknown a row, where those that hold one may move to another one; tell whether it got one.

    No row is asked for twice: whoever holds it could not leave it the first time either.
    """
    for number in _rows_with(shape, name):
        if number not in asked:
            asked.append(number)
            if number not in holders or _settle(shape, holders, asked, holders[number]):
                holders[number] = name
                return True
    return False


def _settled(shape, readings):
    """Return the unknowns that hold rows, by the rows' numbers, and the first set that proves crowded, or None."""
    holders = {}
    for name in names_without(shape.unknowns, readings):
        asked = []
        if not _settle(shape, holders, asked, name):
            # All rows of these unknowns were asked for, and each one is held by one of them.
            return holders, tuple(sorted([name, *[holders[number] for number in asked]]))
    return holders, None


def pairing(shape, readings):
    """Return a pairing as a dict from the unread unknowns to the numbers of rows, or None."""
    check_set(shape.unknowns, readings)
    holders, too_many = _settled(shape, readings)
    if too_many is not None:
        return None
    rows = {name: number for number, name in holders.items()}
    return {name: rows[name] for name in names_without(shape.unknowns, readings)}


def crowded(shape, readings):
    """Return a crowded set, or None."""
    check_set(shape.unknowns, readings)
    _, too_many = _settled(shape, readings)
    return too_many


def _may_have(shape, name, value):
    """Tell whether any value is the number of a row in which the unknown occurs."""
    return is_row_number(shape.rows, value) and shape.occurs(value, name)


def check_pairing(shape, readings, pairs):
    """Tell whether the dict of any values is a pairing."""
    check_set(shape.unknowns, readings)
    if tuple(sorted(pairs)) != names_without(shape.unknowns, readings):
        return False
    if not all([_may_have(shape, name, value) for name, value in pairs.items()]):
        return False
    return len(set(list(pairs.values()))) == len(pairs)


def check_crowded(shape, readings, value):
    """Tell whether any value is a crowded set."""
    check_set(shape.unknowns, readings)
    if not is_set(names_without(shape.unknowns, readings), value):
        return False
    return len(value) > len({number for name in value for number in _rows_with(shape, name)})


def _pairing_there(shape, readings):
    """Return a pairing, or raise an error with a crowded set."""
    pairs = pairing(shape, readings)
    if pairs is None:
        raise NoPairing(crowded(shape, readings))
    return pairs


def telling_factors(shape, readings):
    """Return factors with which all unknowns follow from the readings."""
    pairs = _pairing_there(shape, readings)
    factors = {}
    for number, (sure, perhaps) in enumerate(shape.rows):
        for name in sure + perhaps:
            factors[(number, name)] = 1 if name in sure else 0
    for name, number in pairs.items():
        # It outweighs all others of its row together, so the paired rows cannot depend on one another.
        factors[(number, name)] = len(shape.unknowns)
    return factors


def spare_rows(shape, readings):
    """Return the numbers of the rows without which there still is a pairing, each one taken out alone."""
    _pairing_there(shape, readings)
    numbers = range(len(shape.rows))
    return tuple([number for number in numbers if pairing(shape.without_row(number), readings) is not None])
