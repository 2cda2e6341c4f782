"""Sources: from whom each person first heard the news."""

from fittingpasts.errors import InvalidSource, NeverHeard
from fittingpasts.words import check_known


def _day_of(timetable, source):
    """Return the day on which somebody with this source hears, by its form alone, or None."""
    if len(source) == 1:
        return 0
    if len(source) == 2 and source[1] in range(len(timetable.meetings)):
        return timetable.meetings[source[1]][0][0]
    return None


def _is_source(timetable, sources, person, source):
    """Return True if the source may be the person's."""
    if len(source) < 2:
        return source in ((), (person,))
    day = _day_of(timetable, source)
    if day is None:
        return False
    teller, meeting = source
    guests = timetable.meetings[meeting][1]
    if teller == person or teller not in guests or person not in guests:
        return False
    heard = _day_of(timetable, sources[timetable.people.index(teller)])
    return heard is not None and heard < day


def heard_days(timetable, sources):
    """Return the tuple of the days on which the people hear; None for those who never hear."""
    for person, source in zip(timetable.people, sources):
        if not _is_source(timetable, sources, person, source):
            raise InvalidSource(person)
    return tuple([_day_of(timetable, source) for source in sources])


def trace(timetable, sources, person):
    """Return the way on which the person heard, from somebody who began."""
    days = heard_days(timetable, sources)
    people = timetable.people
    check_known((person,), people)
    if days[people.index(person)] is None:
        raise NeverHeard(person)
    steps = []
    source = sources[people.index(person)]
    while len(source) == 2:
        teller, meeting = source
        steps.append((days[people.index(person)], meeting, teller, person))
        person = teller
        source = sources[people.index(person)]
    return tuple(steps[::-1])


def beginners(sources):
    """Return the list of the names in the sources with one item."""
    return [source[0] for source in sources if len(source) == 1]
