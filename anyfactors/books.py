"""Books: a shape and readings that can be changed, and changed back."""

from anyfactors.errors import DuplicateName, NothingToUndo, UnknownName
from anyfactors.kinds import kind_of
from anyfactors.shapes import check_unknown, names_without
from anyfactors.steps import reached
from anyfactors.verdicts import judge


def _with_reading(shape, readings, name):
    check_unknown(shape.unknowns, name)
    if name in readings:
        raise DuplicateName(name)
    return tuple(sorted([*readings, name]))


def _without_reading(readings, name):
    if name not in readings:
        raise UnknownName(name)
    return names_without(readings, (name,))


def _changed(shape, readings, change):
    """Return the shape and the readings as they are after the change."""
    word = change[0]
    if word == "row":
        return shape.with_row(change[1], change[2]), readings
    if word == "drop row":
        return shape.without_row(change[1]), readings
    if word == "reading":
        return shape, _with_reading(shape, readings, change[1])
    return shape, _without_reading(readings, change[1])


class Book:
    """A shape and readings as they are now, with the changes that led to them."""

    def __init__(self, shape):
        self._shape = shape
        self._readings = ()
        # Each change, with the shape and the readings that it changed: these never change themselves.
        self._past = []

    def shape(self):
        """Return the shape as it is now."""
        return self._shape

    def readings(self):
        """Return the readings as they are now."""
        return self._readings

    def kind(self, name):
        """Return the kind of an unknown: always, sometimes or never."""
        return kind_of(self._shape, self._readings, name)

    def verdict(self):
        """Return the verdict of the readings."""
        return judge(self._shape, self._readings)

    def _make(self, change):
        shape, readings = _changed(self._shape, self._readings, change)
        self._past.append((change, self._shape, self._readings))
        self._shape = shape
        self._readings = readings

    def put_row(self, sure, perhaps):
        """Add a row behind the others."""
        self._make(("row", sure, perhaps))

    def drop_row(self, number):
        """Take out the row with this number; the rows behind it move up."""
        self._make(("drop row", number))

    def add_reading(self, name):
        """Add an unknown to the readings."""
        self._make(("reading", name))

    def drop_reading(self, name):
        """Take an unknown out of the readings."""
        self._make(("drop reading", name))

    def undo(self):
        """Take back the last change that has not been taken back."""
        if not self._past:
            raise NothingToUndo()
        _, shape, readings = self._past.pop()
        self._shape = shape
        self._readings = readings

    def tried(self, changes):
        """Return the verdict that the book would have after these changes; the book stays as it is."""
        shape = self._shape
        readings = self._readings
        for change in changes:
            shape, readings = _changed(shape, readings, change)
        return judge(shape, readings)

    def history(self):
        """List the changes that have been made and not been taken back, in order."""
        return [entry[0] for entry in self._past]

    def __len__(self):
        return len(self._past)

    def __contains__(self, name):
        return name in reached(self._shape, self._readings)
