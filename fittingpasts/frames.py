"""Frames: what is known before any paper is read."""

from fittingpasts.errors import InvalidFrame, InvalidLine, UnknownName
from fittingpasts.words import MOST_DIGITS, as_tuples, check_known, is_name, is_number, is_value

MOST_VALUE = 1000000000000
# The forms of the lines of a text, in order: the first word, the kinds of the next words, and of any more words.
FORMS = (
    ("last", ("number",), ""),
    ("events", (), "name"),
    ("people", (), "name"),
    ("meeting", ("name",), "name"),
    ("cycle", ("name", "number", "number"), ""),
    ("marks", (), "name"),
    ("roll", ("name", "name"), "value"),
    ("shelf", ("name",), "name"),
)
REPEATED = ("meeting", "cycle", "roll", "shelf")


def _are_names(names, most):
    """Return True if these are at most so many different names."""
    return len(names) <= most and len(set(names)) == len(names) and all([is_name(name) for name in names])


def _are_meetings(frame):
    """Return True if the meetings of a frame are right, as far as they may be by events and people."""
    if not _are_names([meeting[0] for meeting in frame.meetings], frame.MOST_MEETINGS):
        return False
    for event, guests in frame.meetings:
        if event not in frame.events or len(guests) < 2 or len(set(guests)) < len(guests):
            return False
        if not all([guest in frame.people for guest in guests]):
            return False
    return True


def _are_cycles(frame):
    """Return True if the cycles of a frame are right."""
    if not _are_names([cycle[0] for cycle in frame.cycles], frame.MOST_CYCLES):
        return False
    return all([1 <= least <= most <= frame.MOST_LENGTH for _, least, most in frame.cycles])


def _are_rolls(frame):
    """Return True if the rolls of a frame are right, as far as they may be by events and marks."""
    if not _are_names([roll[0] for roll in frame.rolls], frame.MOST_ROLLS):
        return False
    for _, event, values in frame.rolls:
        if event not in frame.events or len(values) != len(frame.marks):
            return False
        if not all([-MOST_VALUE <= value <= MOST_VALUE for value in values]):
            return False
    return True


def _are_shelves(frame):
    """Return True if the shelves of a frame are right, as far as they may be by rolls."""
    if not _are_names([shelf[0] for shelf in frame.shelves], frame.MOST_SHELVES):
        return False
    known = [roll[0] for roll in frame.rolls]
    for _, rolls in frame.shelves:
        if not _are_names(rolls, frame.MOST_ON_SHELF) or not all([roll in known for roll in rolls]):
            return False
    return True


def _wrong_part(frame):
    """Return the name of the first part that is not as a frame has it, or None."""
    if not 1 <= frame.last <= frame.LAST_DAY:
        return "last"
    if not _are_names(frame.events, frame.MOST_EVENTS) or len(frame.events) == 0:
        return "events"
    if not _are_names(frame.people, frame.MOST_PEOPLE):
        return "people"
    if not _are_meetings(frame):
        return "meetings"
    if not _are_cycles(frame):
        return "cycles"
    if not _are_names(frame.marks, frame.MOST_MARKS) or "age" in frame.marks:
        return "marks"
    if not _are_rolls(frame):
        return "rolls"
    return None if _are_shelves(frame) else "shelves"


def _is_of_kind(word, kind):
    """Return True if a word of a text is a name, a number or a value, as the kind says."""
    if kind == "name":
        return is_name(word)
    if kind == "value":
        return is_value(word, MOST_DIGITS)
    return is_number(word, MOST_DIGITS)


def _has_form(line, form):
    """Return True if a line of a text has the form."""
    first, kinds, more = form
    words = line.split(" ")
    if more != "":
        kinds = [*kinds, *[more for _ in range(len(words) - len(kinds) - 1)]]
    if words[0] != first or len(words) != len(kinds) + 1:
        return False
    return all([_is_of_kind(word, kind) for word, kind in zip(words[1:], kinds)])


def _read_lines(text):
    """Return a dict with a list for each form: the lists of the words of its lines, without the first words."""
    lines = text.split("\n")
    found = {}
    at = 0
    for form in FORMS:
        rows = []
        while at < len(lines) and _has_form(lines[at], form) and (form[0] in REPEATED or not rows):
            rows.append(lines[at].split(" ")[1:])
            at += 1
        if not rows and form[0] not in REPEATED:
            raise InvalidLine(at + 1)
        found[form[0]] = rows
    if at < len(lines):
        raise InvalidLine(at + 1)
    return found


def _line(first, words):
    """Return the line of a text with these words."""
    return " ".join([first, *[str(word) for word in words]])


class Frame:
    """The events, people, meetings, cycles, marks, rolls and shelves of a house, and the last day."""

    MOST_EVENTS = 8
    MOST_PEOPLE = 4
    MOST_MEETINGS = 4
    MOST_CYCLES = 2
    MOST_LENGTH = 12
    MOST_MARKS = 2
    MOST_ROLLS = 8
    MOST_SHELVES = 2
    MOST_ON_SHELF = 5
    LAST_DAY = 20

    def __init__(self, events, people=(), meetings=(), cycles=(), marks=(), rolls=(), shelves=(), *, last=10):
        self.events = as_tuples(events)
        self.people = as_tuples(people)
        self.meetings = as_tuples(meetings)
        self.cycles = as_tuples(cycles)
        self.marks = as_tuples(marks)
        self.rolls = as_tuples(rolls)
        self.shelves = as_tuples(shelves)
        self.last = last
        part = _wrong_part(self)
        if part is not None:
            raise InvalidFrame(part)

    def _parts(self):
        """Return the tuple of all parts."""
        return (
            self.events, self.people, self.meetings, self.cycles, self.marks, self.rolls, self.shelves, self.last
        )

    def __eq__(self, other):
        return isinstance(other, Frame) and self._parts() == other._parts()

    def __str__(self):
        return "\n".join([
            f"last {self.last}",
            _line("events", self.events),
            _line("people", self.people),
            *[_line("meeting", (event, *guests)) for event, guests in self.meetings],
            *[_line("cycle", cycle) for cycle in self.cycles],
            _line("marks", self.marks),
            *[_line("roll", (name, event, *values)) for name, event, values in self.rolls],
            *[_line("shelf", (name, *rolls)) for name, rolls in self.shelves],
        ])

    def _roll(self, name):
        """Return the roll with this name."""
        for roll in self.rolls:
            if roll[0] == name:
                return roll
        raise UnknownName(name)

    def guests(self, event):
        """Return the tuple of the guests of the meeting at the event; without a meeting it is empty."""
        check_known((event,), self.events)
        for met, guests in self.meetings:
            if met == event:
                return guests
        return ()

    def event_of(self, roll):
        """Return the event at which the roll was written."""
        return self._roll(roll)[1]

    def values_of_roll(self, roll):
        """Return the tuple of the values of the roll on the marks."""
        return self._roll(roll)[2]

    def rolls_on(self, shelf):
        """Return the tuple of the names of the rolls on the shelf."""
        for name, rolls in self.shelves:
            if name == shelf:
                return rolls
        raise UnknownName(shelf)

    def shelf_marks(self, shelf):
        """Return the tuple of the values of the rolls on the shelf."""
        return tuple([self.values_of_roll(roll) for roll in self.rolls_on(shelf)])

    @classmethod
    def read(cls, text):
        """Return the frame that the text writes."""
        found = _read_lines(text)
        return cls(
            found["events"][0],
            found["people"][0],
            [(words[0], words[1:]) for words in found["meeting"]],
            [(name, int(least), int(most)) for name, least, most in found["cycle"]],
            found["marks"][0],
            [(words[0], words[1], [int(word) for word in words[2:]]) for words in found["roll"]],
            [(words[0], words[1:]) for words in found["shelf"]],
            last=int(found["last"][0][0]),
        )
