"""Rows of values as integers: the bit at an index tells whether a row has the value at this index of all values."""

from fittingpasts.demands import SIGNS
from fittingpasts.rules import all_rules
from fittingpasts.variables import all_values, day_by, point_variable, variables


def bits_of(row):
    """Return the list of the bits of a row, each as a row of its own, ascending."""
    bits = []
    while row != 0:
        bits.append(row & -row)
        row = row & (row - 1)
    return bits


def size_of(row):
    """Return how many values a row has."""
    return f"{row:b}".count("1")


def has_many(row):
    """Return True if a row has two or more values."""
    return row & (row - 1) != 0


class Scale:
    """The values of a variable as rows by the days for which they stand."""

    def __init__(self, variable, days):
        rows = [0 for _ in range(max(days) + 1)]
        for at, day in enumerate(days):
            rows[day] = rows[day] | (1 << at)
        reached = [0]
        for row in rows:
            reached.append(reached[-1] | row)
        self.variable = variable
        self.many = len(rows)
        self._rows = rows
        self._reached = reached

    def on(self, day):
        """Return the row of the values that stand for the day."""
        return self._rows[day] if 0 <= day < self.many else 0

    def up_to(self, day):
        """Return the row of the values that stand for the day or an earlier one."""
        return self._reached[max(0, min(day + 1, self.many))]

    def since(self, day):
        """Return the row of the values that stand for the day or a later one."""
        return self._reached[self.many] - self.up_to(day - 1)


def _sign(number, other):
    """Return -1, 0 or 1 if the number is less than, equal to, or greater than the other one."""
    if number == other:
        return 0
    return 1 if number > other else -1


def _rules_by_signs(marks, results):
    """Return the dict of `rules_by_signs` for two rolls of which these are the signs on the known marks."""
    equal = [0 for _ in range(len(marks) + 1)]
    rows = {}
    for at, rule in enumerate(all_rules(len(marks) + 1)):
        signs = tuple([sign for sign in SIGNS if rule.compare((*marks, sign), equal) in results])
        rows[signs] = rows.get(signs, 0) | (1 << at)
    return rows


class Grid:
    """The variables of a frame with all their values, and rows of these values as integers."""

    def __init__(self, frame):
        names = tuple(variables(frame))
        choices = all_values(frame)
        self.frame = frame
        self.names = names
        self.choices = choices
        self.places = {name: at for at, name in enumerate(names)}
        self.wholes = [(1 << len(values)) - 1 for values in choices]
        self._scales = {}
        self._rules = {}

    def values_at(self, variable):
        """Return the tuple of all values of the variable."""
        return self.choices[self.places[variable]]

    def whole(self, variable):
        """Return the row of all values of the variable."""
        return self.wholes[self.places[variable]]

    def row_of(self, variable, wanted):
        """Return the row of the values of the variable that are among the wanted ones."""
        among = {value: True for value in wanted}
        return sum([1 << at for at, value in enumerate(self.values_at(variable)) if value in among])

    def bit_of(self, at, value):
        """Return the bit of a value of the variable at an index, or 0 if the variable does not have the value."""
        values = self.choices[at]
        return 1 << values.index(value) if value in values else 0

    def rows_of(self, rows):
        """Return the list of the rows as integers; they are sequences of values, one for each variable."""
        return [self.row_of(variable, row) for variable, row in zip(self.names, rows)]

    def values_in(self, at, row):
        """Return the tuple of the values in a row of the variable at an index."""
        values = self.choices[at]
        return tuple([values[bit.bit_length() - 1] for bit in bits_of(row)])

    def scale(self, point):
        """Return the scale of the variable of a point."""
        return self._scale_of(point_variable(self.frame, point), point)

    def heard_scale(self, person):
        """Return the scale of when the person heard."""
        return self._scale_of(("heard", person), person)

    def _scale_of(self, variable, point):
        """Return the scale of a variable, by the days that its values say for the point."""
        key = (variable, point)
        if key not in self._scales:
            self._scales[key] = Scale(variable, [day_by(point, value) for value in self.values_at(variable)])
        return self._scales[key]

    def rules_by_signs(self, roll, other, results):
        """Return a dict: for each tuple of signs of the ages of two rolls the row of the rules that go with it.

        By these rules the comparison of the rolls gives one of the results exactly for the ages with these signs.
        """
        values, other_values = self.frame.values_of_roll(roll), self.frame.values_of_roll(other)
        marks = tuple([_sign(value, other_value) for value, other_value in zip(values, other_values)])
        key = (marks, results)
        if key not in self._rules:
            self._rules[key] = _rules_by_signs(marks, results)
        return self._rules[key]
