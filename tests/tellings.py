"""Timetables for the tests of tellings, and all their ways, one by one."""

from fittingpasts.timetables import Timetable
from tests.helpers import Numbers


def example():
    return Timetable(("ann", "ben", "cid"), [((1, 3), ("ann", "ben")), ((2,), ("ben", "cid"))])


def all_ways(timetable, begin, silent=(), since=0):
    """All ways from `begin` without silent tellers, by their meaning."""
    rows = [()]
    if begin in silent:
        return rows
    for at, (days, guests) in enumerate(timetable.meetings):
        for day in days:
            for hearer in guests:
                if day > since and begin in guests and hearer != begin:
                    step = (day, at, begin, hearer)
                    rows += [(step, *way) for way in all_ways(timetable, hearer, silent, day)]
    return rows


def led_to(way, begin):
    """The person to whom the way leads, and the day on which it arrives."""
    return (way[-1][3], way[-1][0]) if way else (begin, 0)


def ways_to(timetable, begin, person, by=None, silent=()):
    """All ways to the person that arrive in time."""
    rows = [(way, led_to(way, begin)) for way in all_ways(timetable, begin, silent)]
    return [way for way, (found, day) in rows if found == person and (by is None or day <= by)]


def samples(seed=7, many=60):
    numbers = Numbers(seed)
    rows = []
    for _ in range(many):
        people = ("dot", "", "ann", "Ben B")[:numbers.between(3, 4)]
        meetings = []
        for _ in range(numbers.between(1, 5)):
            guests = [person for person in people[::-1] if numbers.below(3)]
            days = sorted({numbers.below(6) for _ in range(numbers.between(1, 3))})
            if len(guests) > 1:
                meetings.append((days, guests[:numbers.between(2, 3)]))
        rows.append(Timetable(people, meetings))
    return rows


SAMPLES = samples()
