"""Sets of unknowns, and shapes: which unknowns occur in which rows, surely or perhaps."""

from anyfactors.errors import (
    BadCount, BadName, BadNumber, BadRow, BadSet, BadText, DuplicateName, FactorError, UnknownName,
)
from anyfactors.naming import valid_name

MOST = 8


def is_integer(value):
    """Tell whether any value is an integer."""
    # Python takes True and False for integers; the program does not.
    return isinstance(value, int) and not isinstance(value, bool)


def all_sets(names):
    """List all sets of these names, short ones first."""
    found = [()]
    for name in names:
        found = found + [(*chosen, name) for chosen in found]
    return sorted(found, key=lambda members: (len(members), members))


def is_set(names, value):
    """Tell whether any value is a set of these names."""
    if not isinstance(value, tuple):
        return False
    # Only once all items are names can they be compared in order.
    if not all([item in names for item in value]):
        return False
    return all([before < after for before, after in zip(value, value[1:])])


def names_without(names, others):
    """Return those of the names that are not among the others, as a tuple."""
    return tuple([name for name in names if name not in others])


def check_set(names, value):
    """Raise an error if any value is not a set of these names."""
    if not is_set(names, value):
        raise BadSet(value)


def check_unknown(names, name):
    """Raise an error if the name is not one of these."""
    if name not in names:
        raise UnknownName(name)


def is_row_number(rows, value):
    """Tell whether any value is the number of one of these rows."""
    return is_integer(value) and 0 <= value < len(rows)


def _is_row(names, value):
    if not isinstance(value, tuple) or len(value) != 2:
        return False
    sure, perhaps = value
    if not is_set(names, sure) or not is_set(names, perhaps):
        return False
    return not any([name in perhaps for name in sure])


def _check_names(names):
    if len(names) < 1 or len(names) > MOST:
        raise BadCount(len(names))
    for at, name in enumerate(names):
        if not valid_name(name):
            raise BadName(name)
        if name in names[:at]:
            raise DuplicateName(name)


def _check_rows(names, rows):
    if len(rows) > MOST:
        raise BadCount(len(rows))
    for row in rows:
        if not _is_row(names, row):
            raise BadRow(row)


def _row_names(numbers):
    return tuple([f"r{number}" for number in numbers])


def _row_text(row):
    sure, perhaps = row
    text = " ".join(sure) if sure else "-"
    if not perhaps:
        return text
    return text + " | " + " ".join(perhaps)


def _row_from(text):
    sure, bar, perhaps = text.partition(" | ")
    return (
        () if sure == "-" else tuple(sure.split(" ")),
        tuple(perhaps.split(" ")) if bar else (),
    )


class Shape:
    """Unknowns and rows; it never changes."""

    def __init__(self, unknowns, rows):
        _check_names(unknowns)
        _check_rows(unknowns, rows)
        self._unknowns = tuple(sorted(unknowns))
        self._rows = tuple(rows)

    @property
    def unknowns(self):
        """The tuple of the unknowns, in ascending order."""
        return self._unknowns

    @property
    def rows(self):
        """The tuple of the rows, each a tuple of its sure and its perhaps unknowns."""
        return self._rows

    @classmethod
    def read(cls, text):
        """Return the shape that has this text."""
        parts = text.split("; ")
        rows = [_row_from(part) for part in parts[1:]]
        try:
            shape = cls(parts[0].split(" "), rows)
        except FactorError:
            raise BadText(text) from None
        # Unknowns out of order make a shape, but not one with this text.
        if str(shape) != text:
            raise BadText(text)
        return shape

    def __eq__(self, other):
        return isinstance(other, Shape) and self._unknowns == other._unknowns and self._rows == other._rows

    def __str__(self):
        return "; ".join([" ".join(self._unknowns)] + [_row_text(row) for row in self._rows])

    def _check_number(self, value):
        if not is_row_number(self._rows, value):
            raise BadNumber(value)

    def occurs(self, number, name):
        """Tell whether the unknown occurs in the row with this number."""
        self._check_number(number)
        check_unknown(self._unknowns, name)
        sure, perhaps = self._rows[number]
        return name in sure or name in perhaps

    def stands(self, name):
        """Return the numbers of the rows in which the unknown stands surely, and perhaps."""
        check_unknown(self._unknowns, name)
        surely = [number for number, row in enumerate(self._rows) if name in row[0]]
        perhaps = [number for number, row in enumerate(self._rows) if name in row[1]]
        return tuple(surely), tuple(perhaps)

    def turned(self):
        """Return the shape in which rows and unknowns have changed places."""
        rows = []
        for name in self._unknowns:
            surely, perhaps = self.stands(name)
            rows.append((_row_names(surely), _row_names(perhaps)))
        # Without rows there are no new unknowns, which the constructor refuses.
        return Shape(_row_names(list(range(len(self._rows)))), rows)

    def without(self, wanted):
        """Return the shape without the unknowns of a set; all rows stay."""
        check_set(self._unknowns, wanted)
        rows = [(names_without(sure, wanted), names_without(perhaps, wanted)) for sure, perhaps in self._rows]
        # The constructor refuses a shape to which no unknown is left.
        return Shape(names_without(self._unknowns, wanted), rows)

    def with_row(self, sure, perhaps):
        """Return the shape with one more row behind the others."""
        # The constructor refuses a ninth row first, and then a last row that is wrong.
        return Shape(self._unknowns, [*self._rows, (sure, perhaps)])

    def without_row(self, number):
        """Return the shape without the row with this number."""
        self._check_number(number)
        return Shape(self._unknowns, self._rows[:number] + self._rows[number + 1:])
