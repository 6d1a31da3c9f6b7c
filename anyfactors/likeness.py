"""Shapes held against one another, for all readings at once.

There are many readings, so sets are numbers here: each unknown, and each row, has a bit of its own.
"""

from anyfactors.errors import BadNumber, UnknownName, UnlikeUnknowns
from anyfactors.shapes import Shape, all_sets, is_row_number, names_without


def _bits(names, chosen):
    """Return the number with the bits of those of the names that are chosen."""
    return sum([1 << at for at, name in enumerate(names) if name in chosen])


def _rows_as_bits(shape):
    """List for each row the bits of its sure unknowns, and of all that occur in it."""
    names = shape.unknowns
    return [(_bits(names, sure), _bits(names, sure + perhaps)) for sure, perhaps in shape.rows]


def _columns_as_bits(shape):
    """List for each unknown the bits of the rows in which it stands surely, and of all in which it occurs."""
    numbers = list(range(len(shape.rows)))
    columns = [shape.stands(name) for name in shape.unknowns]
    return [(_bits(numbers, surely), _bits(numbers, surely + perhaps)) for surely, perhaps in columns]


def _found(lines, known):
    """Return what is known once each line, a row or a column, gives what is left of it, if it is one and a sure one."""
    before = -1
    while known != before:
        before = known
        for sure, both in lines:
            left = both & ~known
            # A number without its lowest bit is 0 if it has no other one.
            if (left & sure) != 0 and (left & (left - 1)) == 0:
                known = known | left
    return known


def _seen_past(columns, strikers):
    """Return the bits of the unknowns that occur in a row that is left by the strikes of the strikers."""
    struck = _found([column for at, column in enumerate(columns) if strikers & (1 << at)], 0)
    return sum([1 << at for at, (_, both) in enumerate(columns) if both & ~struck])


def _kinds_as_bits(shape):
    """List for each set of readings, in order, the bits of what follows always, and of what follows never."""
    rows = _rows_as_bits(shape)
    columns = _columns_as_bits(shape)
    ones = [1 << at for at in range(len(columns))]
    # The strikes depend on the strikers alone, which are the same ones for many readings and unknowns.
    seen = [_seen_past(columns, strikers) for strikers in range(1 << len(columns))]
    found = []
    for readings in all_sets(shape.unknowns):
        known = _bits(shape.unknowns, readings)
        unread = sum(ones) - known
        never = sum([one for one in ones if one & unread and not one & seen[unread - one]])
        found.append((_found(rows, known), never))
    return found


def _check_unknowns(one, other):
    if one.unknowns != other.unknowns:
        raise UnlikeUnknowns(other.unknowns)


def alike(one, other):
    """Tell whether for all readings every unknown has the same kind in both shapes."""
    _check_unknowns(one, other)
    return _kinds_as_bits(one) == _kinds_as_bits(other)


def parting(one, other):
    """Return the first readings, and the first unknown, for which the kinds are different, or None."""
    _check_unknowns(one, other)
    sets = all_sets(one.unknowns)
    for readings, first, second in zip(sets, _kinds_as_bits(one), _kinds_as_bits(other)):
        different = (first[0] ^ second[0]) | (first[1] ^ second[1])
        for at, name in enumerate(one.unknowns):
            if different & (1 << at):
                return readings, name
    return None


def stronger(one, other):
    """Tell whether for all readings no unknown has a later kind in the first shape than in the other one."""
    _check_unknowns(one, other)
    for first, second in zip(_kinds_as_bits(one), _kinds_as_bits(other)):
        if (second[0] & ~first[0]) != 0 or (first[1] & ~second[1]) != 0:
            return False
    return True


def needless_rows(shape):
    """List the numbers of the rows without which the shape is alike."""
    found = _kinds_as_bits(shape)
    return [number for number in range(len(shape.rows)) if _kinds_as_bits(shape.without_row(number)) == found]


def lean(shape):
    """Return the shape without those rows that prove needless, from the last one to the first one."""
    found = _kinds_as_bits(shape)
    left = shape
    for number in reversed(range(len(shape.rows))):
        less = left.without_row(number)
        if _kinds_as_bits(less) == found:
            left = less
    return left


def _word_for(always, never, one):
    """Return the kind of the unknown with this bit."""
    if always & one:
        return "always"
    return "never" if never & one else "sometimes"


def kind_table(shape):
    """Return a dict from each set of readings to the dict of the kinds of all unknowns."""
    table = {}
    for readings, (always, never) in zip(all_sets(shape.unknowns), _kinds_as_bits(shape)):
        table[readings] = {name: _word_for(always, never, 1 << at) for at, name in enumerate(shape.unknowns)}
    return table


def _moved(one, other, name):
    """Return two sets, the first one without the name, and the second one with it."""
    return names_without(one, (name,)), tuple(sorted([*other, name]))


def _with_changed_row(shape, number, row):
    return Shape(shape.unknowns, [*shape.rows[:number], row, *shape.rows[number + 1:]])


def loosened(shape, number, name):
    """Return the shape in which an unknown that stands surely in a row stands perhaps in it."""
    if not is_row_number(shape.rows, number):
        raise BadNumber(number)
    sure, perhaps = shape.rows[number]
    if name not in sure:
        raise UnknownName(name)
    return _with_changed_row(shape, number, _moved(sure, perhaps, name))


def _tightened(shape, number, name):
    """Return the shape in which an unknown that stands perhaps in a row stands surely in it."""
    sure, perhaps = shape.rows[number]
    perhaps, sure = _moved(perhaps, sure, name)
    return _with_changed_row(shape, number, (sure, perhaps))


def fixed_places(shape):
    """List the places where an unknown stands perhaps, and could as well stand surely."""
    found = _kinds_as_bits(shape)
    places = [(number, name) for number, (_, perhaps) in enumerate(shape.rows) for name in perhaps]
    return [
        (number, name) for number, name in places if _kinds_as_bits(_tightened(shape, number, name)) == found
    ]
