"""Calendars: up to four cycles with names."""

from math import lcm

from fittingpasts.cycles import moved, next_day, place_on
from fittingpasts.errors import InvalidCalendar, InvalidText, TooMany, UnknownName
from fittingpasts.words import is_name, is_number

MOST_CYCLES = 4
MOST_LENGTH = 60
MOST_DIGITS = 4


def _read_cycle(part, text):
    """Return the triple that a part of the text of a calendar writes."""
    words = part.split(" ")
    if len(words) != 3 or not is_name(words[0]):
        raise InvalidText(text)
    if not is_number(words[1], MOST_DIGITS) or not is_number(words[2], MOST_DIGITS):
        raise InvalidText(text)
    return (words[0], int(words[1]), int(words[2]))


class Calendar:
    """The cycles by which days are dated: triples (name, length, shift)."""

    def __init__(self, cycles):
        cycles = tuple([tuple(cycle) for cycle in cycles])
        if len(cycles) > MOST_CYCLES:
            raise TooMany(MOST_CYCLES)
        names = [name for name, _, _ in cycles]
        for at, (name, length, shift) in enumerate(cycles):
            if not is_name(name) or name in names[:at]:
                raise InvalidCalendar(at)
            if not 1 <= length <= MOST_LENGTH or not 0 <= shift < length:
                raise InvalidCalendar(at)
        self.cycles = cycles

    def __eq__(self, other):
        return isinstance(other, Calendar) and self.cycles == other.cycles

    def __str__(self):
        return ", ".join([f"{name} {length} {shift}" for name, length, shift in self.cycles])

    def __getitem__(self, name):
        for known, length, shift in self.cycles:
            if known == name:
                return (length, shift)
        raise UnknownName(name)

    # Without this Python would ask for the items 0, 1, 2 .. as if they were names.
    def __iter__(self):
        raise TypeError("a calendar is not iterated over")

    def __add__(self, many):
        return Calendar([(name, *moved((length, shift), many)) for name, length, shift in self.cycles])

    @property
    def period(self):
        """The least common multiple of the lengths."""
        days = 1
        for _, length, _ in self.cycles:
            days = lcm(days, length)
        return days

    def date_of(self, day):
        """Return the tuple of the places that the cycles show on the day."""
        return tuple([place_on((length, shift), day) for _, length, shift in self.cycles])

    def place_of(self, name, day):
        """Return the place that the cycle with this name shows on the day."""
        return place_on(self[name], day)

    def next_with(self, start, **places):
        """Return the least day from `start` on which each named cycle shows its place, or None."""
        names = sorted(list(places))
        return next_day([self[name] for name in names], [places[name] for name in names], start)

    @classmethod
    def read(cls, text):
        """Return the calendar that the text writes."""
        if text == "":
            return cls(())
        return cls([_read_cycle(part, text) for part in text.split(", ")])
