"""Pasts: one value for each variable of a frame."""

from fittingpasts.calendars import Calendar
from fittingpasts.errors import InvalidLine, InvalidPast, UnknownVariable, UnlikeFrames
from fittingpasts.house import aged_roll, house_ties, is_kept
from fittingpasts.rules import Rule
from fittingpasts.stays import Stay
from fittingpasts.timetables import Timetable
from fittingpasts.variables import all_values, day_by, point_variable, variables
from fittingpasts.words import as_tuples, check_known


def value_text(kind, value):
    """Return the words that write a value of a variable of this kind, with one space between."""
    if kind == "rule":
        return str(Rule(value))
    if isinstance(value, tuple):
        return " ".join([str(part) for part in value])
    return str(value)


def _line_of(variable, value):
    """Return the line of a text that says that the variable has the value."""
    kind, name = variable
    return " ".join([word for word in [kind, name, value_text(kind, value)] if word != ""])


class Past:
    """A frame, and one value for each of its variables."""

    def __init__(self, frame, values):
        values = as_tuples(values)
        chosen = dict(zip(variables(frame), values))
        for (variable, value), known in zip(chosen.items(), all_values(frame)):
            if value not in known:
                raise InvalidPast(variable)
        self.frame = frame
        self.assigned = values
        self._chosen = chosen

    def __eq__(self, other):
        return isinstance(other, Past) and self.frame == other.frame and self.assigned == other.assigned

    def __str__(self):
        return "\n".join([_line_of(variable, self[variable]) for variable in variables(self.frame)])

    def __getitem__(self, variable):
        if variable not in self._chosen:
            raise UnknownVariable(variable)
        return self._chosen[variable]

    # Without this Python would ask for the items 0, 1, 2 .. as if they were variables.
    def __iter__(self):
        raise TypeError("a past is not iterated over")

    def faults(self):
        """Return the list of the labels of the house ties that do not hold."""
        return [label for label in house_ties(self.frame) if not is_kept(self.frame, label, self)]

    def is_whole(self):
        """Return True if all house ties hold."""
        return len(self.faults()) == 0

    def day_of(self, point):
        """Return the day of the point."""
        return day_by(point, self[point_variable(self.frame, point)])

    def event_line(self):
        """Return the tuple of the events by their days."""
        return tuple(sorted(list(self.frame.events), key=lambda event: self["day", event]))

    def stay_of(self, person):
        """Return the stay of the person."""
        check_known((person,), self.frame.people)
        come, go = self["stay", person]
        return Stay(come, go)

    def calendar(self):
        """Return the calendar with the frame's cycles as they were."""
        return Calendar([(name, *self["cycle", name]) for name, _, _ in self.frame.cycles])

    def timetable(self):
        """Return the timetable with the days on which the meetings were."""
        return Timetable(self.frame.people, [((self["day", event],), guests) for event, guests in self.frame.meetings])

    def sources(self):
        """Return the tuple of the sources of the people, with the indexes of meetings in the place of events."""
        events = [event for event, _ in self.frame.meetings]
        rows = [self["source", person] for person in self.frame.people]
        return tuple([(row[0], events.index(row[1])) if len(row) == 2 else row for row in rows])

    def rule_of(self, shelf):
        """Return the rule by which the shelf was laid."""
        check_known((shelf,), [name for name, _ in self.frame.shelves])
        return Rule(self["rule", shelf])

    def full_rolls(self, shelf):
        """Return the tuple of the rolls on the shelf, each as its values followed by its age."""
        return tuple([aged_roll(self.frame, roll, self) for roll in self.frame.rolls_on(shelf)])

    def stray_of(self, shelf):
        """Return the index of the roll that is astray on the shelf, or None."""
        rolls = self.frame.rolls_on(shelf)
        stray = self["astray", shelf]
        return None if stray == "" else rolls.index(stray)

    @classmethod
    def read(cls, frame, text):
        """Return the past of the frame that the text writes."""
        lines = text.split("\n")
        values = []
        for at, (variable, known) in enumerate(zip(variables(frame), all_values(frame))):
            found = [value for value in known if _line_of(variable, value) in lines[at:at + 1]]
            if len(found) == 0:
                raise InvalidLine(at + 1)
            values.append(found[0])
        if len(lines) > len(values):
            raise InvalidLine(len(values) + 1)
        return cls(frame, values)


def parted(past, other):
    """Return the list of the variables in which two pasts of one frame differ."""
    if past.frame != other.frame:
        raise UnlikeFrames()
    return [variable for variable in variables(past.frame) if past[variable] != other[variable]]
