"""Lots: which values of the variables of a frame are still possible."""

from fittingpasts.errors import InvalidLot, UnknownVariable, UnlikeFrames
from fittingpasts.past import Past
from fittingpasts.variables import all_values, variables
from fittingpasts.words import as_tuples


def _row(variable, known, given):
    """Return the tuple of the given values in the order of the known ones."""
    allowed = {value: True for value in known}
    wanted = {value: True for value in given}
    if not all([value in allowed for value in wanted]):
        raise InvalidLot(variable)
    return tuple([value for value in known if value in wanted])


def _rows(frame, given):
    """Return the tuple of the rows that have the given values, or all values if None is given."""
    choices = all_values(frame)
    if given is None:
        return choices
    return tuple([
        _row(variable, known, row) for variable, known, row in zip(variables(frame), choices, as_tuples(given))
    ])


def _common(row, other):
    """Return the tuple of the values of a row that another one has as well."""
    return tuple([value for value in row if value in other])


class Lot:
    """A row of values for each variable of a frame."""

    def __init__(self, frame, rows=None):
        self.frame = frame
        self.rows = _rows(frame, rows)

    def __eq__(self, other):
        return isinstance(other, Lot) and self.frame == other.frame and self.rows == other.rows

    def __getitem__(self, variable):
        names = variables(self.frame)
        if variable not in names:
            raise UnknownVariable(variable)
        return self.rows[names.index(variable)]

    # Without this Python would ask for the items 0, 1, 2 .. as if they were variables.
    def __iter__(self):
        raise TypeError("a lot is not iterated over")

    def __contains__(self, past):
        if self.frame != past.frame:
            return False
        return all([value in row for value, row in zip(past.assigned, self.rows)])

    def __and__(self, other):
        """Return the lot of the values that both have."""
        self._check_alike(other)
        return Lot(self.frame, [_common(row, more) for row, more in zip(self.rows, other.rows)])

    def __or__(self, other):
        """Return the lot of the values that at least one has."""
        self._check_alike(other)
        return Lot(self.frame, [(*row, *more) for row, more in zip(self.rows, other.rows)])

    @property
    def size(self):
        """The number of all values in all rows."""
        return sum([len(row) for row in self.rows])

    def _check_alike(self, other):
        if self.frame != other.frame:
            raise UnlikeFrames()

    def _with_row(self, variable, row):
        """Return the lot with this row in the place of that of the variable."""
        names = variables(self.frame)
        return Lot(self.frame, [row if name == variable else kept for name, kept in zip(names, self.rows)])

    def only(self, variable, *values):
        """Return the lot in which the row of the variable has only those of its values that are passed."""
        return self._with_row(variable, _common(self[variable], as_tuples(values)))

    def without(self, variable, *values):
        """Return the lot in which the row of the variable does not have the values."""
        gone = as_tuples(values)
        return self._with_row(variable, [value for value in self[variable] if value not in gone])

    def part_of(self, other):
        """Return True if `other` has every value of this lot."""
        self._check_alike(other)
        return all([_common(row, more) == row for row, more in zip(self.rows, other.rows)])

    def is_broken(self):
        """Return True if some row has no value."""
        return () in self.rows

    def is_empty(self):
        """Return True if no row has a value."""
        return self.size == 0

    def settled(self):
        """Return the list of the variables whose row has exactly one value."""
        return [variable for variable, row in zip(variables(self.frame), self.rows) if len(row) == 1]

    def only_past(self):
        """Return the past of a lot whose rows all have exactly one value, or None."""
        if not all([len(row) == 1 for row in self.rows]):
            return None
        return Past(self.frame, [row[0] for row in self.rows])

    @staticmethod
    def of(frame, *pasts):
        """Return the least lot that has all the pasts."""
        for past in pasts:
            if past.frame != frame:
                raise UnlikeFrames()
        return Lot(frame, [[past.assigned[at] for past in pasts] for at in range(len(variables(frame)))])
