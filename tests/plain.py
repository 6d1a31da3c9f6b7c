"""What the points say of kinds, worked out word by word, without the package's own way of doing it."""

from samples import unread

ORDER = ["always", "sometimes", "never"]


def rows_with(shape, name):
    return [number for number, (sure, perhaps) in enumerate(shape.rows) if name in sure + perhaps]


def plain_reached(shape, readings):
    """The unknowns that follow always: those of rows in which all others are known, again and again."""
    known = set(readings)
    while True:
        new = {
            name for sure, perhaps in shape.rows for name in sure
            if name not in known and set(sure + perhaps) - {name} <= known
        }
        if not new:
            return tuple(sorted(known))
        known |= new


def is_strike(shape, strikers, struck, number, name):
    """Whether a strike of one of the strikers is possible behind those of the struck rows, as point 36 has it."""
    if number not in range(len(shape.rows)) or number in struck or name not in strikers:
        return False
    others = [other for other in rows_with(shape, name) if other != number and other not in struck]
    return name in shape.rows[number][0] and not others


def possible_strikes(shape, strikers, struck):
    found = [(number, name) for number in range(len(shape.rows)) for name in shape.unknowns]
    return [strike for strike in found if is_strike(shape, strikers, struck, *strike)]


def strikes_in_order(shape, strikers):
    """The strikes in which each one is the first possible one."""
    strikes = []
    while True:
        more = possible_strikes(shape, strikers, [number for number, _ in strikes])
        if not more:
            return strikes
        strikes.append(more[0])


def left_by(shape, strikers):
    """The rows that the strikes of the strikers leave."""
    struck = [number for number, _ in strikes_in_order(shape, strikers)]
    return [number for number in range(len(shape.rows)) if number not in struck]


def strikers_for(shape, readings, name):
    return [other for other in unread(shape, readings) if other != name]


def plain_kind(shape, readings, name):
    if name in plain_reached(shape, readings):
        return "always"
    left = left_by(shape, strikers_for(shape, readings, name))
    return "sometimes" if set(left) & set(rows_with(shape, name)) else "never"


def plain_kinds(shape, readings):
    return {name: plain_kind(shape, readings, name) for name in shape.unknowns}


def column_sum(shape, factors, multipliers, name):
    """The sum over all rows, multiplier times factor of the unknown."""
    return sum(times * factors.get((number, name), 0) for number, times in enumerate(multipliers))
