"""Tables for reading: what a lot leaves open, and what happened in a past day by day."""

from fittingpasts.past import value_text
from fittingpasts.variables import variables


def _lot_line(variable, row):
    """Return the line of the table for the row of a variable."""
    kind, name = variable
    text = value_text(kind, row[0]) if len(row) == 1 else ""
    words = [kind.ljust(7), name.ljust(8), str(len(row)).rjust(4), text]
    return " ".join(words if text != "" else words[:3])


def lot_table(lot):
    """Return the list of the lines for the variables: how many values are left, and the only one."""
    return [_lot_line(variable, row) for variable, row in zip(variables(lot.frame), lot.rows)]


def _day_line(past, day):
    """Return the line of the table for a day."""
    events = [event for event in past.frame.events if past.day_of(event) == day]
    people = [person for person in past.frame.people if day in past.stay_of(person)]
    words = [str(day).rjust(2), ",".join(events).ljust(20, "."), ",".join(people) if people else "-"]
    return " ".join(words)


def past_table(past):
    """Return the list of the lines for the days: the events, and the people in the house."""
    return [_day_line(past, day) for day in range(past.frame.last + 1)]
