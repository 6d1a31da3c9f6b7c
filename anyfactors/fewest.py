"""The fewest readings from which everything, or one unknown, follows."""

from anyfactors.errors import BadText
from anyfactors.kinds import kind_of
from anyfactors.shapes import all_sets, check_set, check_unknown, names_without
from anyfactors.steps import reached


def enough(shape, readings):
    """Tell whether all unknowns follow always from the readings."""
    return reached(shape, readings) == shape.unknowns


def _least_of(sets):
    """List those of the sets, which come in order, that contain no other one of them."""
    least = []
    for chosen in sets:
        # A set comes behind all that it contains.
        if not any([not names_without(other, chosen) for other in least]):
            least.append(chosen)
    return least


def all_least(shape):
    """List all sets that are enough and contain no other set that is enough."""
    return _least_of([chosen for chosen in all_sets(shape.unknowns) if enough(shape, chosen)])


def fewest(shape):
    """Return the first set that is enough."""
    return all_least(shape)[0]


def least_for(shape, name, kind):
    """List the least sets of other unknowns with which the unknown follows always, or does not follow never."""
    check_unknown(shape.unknowns, name)
    if kind not in ("always", "sometimes"):
        raise BadText(kind)
    wanted = ("always",) if kind == "always" else ("always", "sometimes")
    others = names_without(shape.unknowns, (name,))
    return _least_of([chosen for chosen in all_sets(others) if kind_of(shape, chosen, name) in wanted])


def needless(shape, readings):
    """Return those of the readings without which the others are still enough, each one left out alone."""
    check_set(shape.unknowns, readings)
    return tuple([name for name in readings if enough(shape, names_without(readings, (name,)))])


def slim(shape, readings):
    """Return the readings without those that prove needless, from the last one to the first one."""
    check_set(shape.unknowns, readings)
    left = readings
    for name in reversed(readings):
        if name in needless(shape, left):
            left = names_without(left, (name,))
    return left
