"""Ways: tuples of steps (day, meeting, teller, hearer), by which the news goes from person to person."""

from fittingpasts.borders import border
from fittingpasts.errors import NoWay
from fittingpasts.timetables import arrivals


def _first_telling(timetable, heard, hearer):
    """Return a step by which the hearer hears on the first day."""
    day = heard[hearer]
    for at, (days, guests) in enumerate(timetable.meetings):
        tellers = [guest for guest in guests if guest in heard and heard[guest] < day]
        if day in days and hearer in guests and tellers:
            return (day, at, tellers[0], hearer)


def earliest_way(timetable, begin, person):
    """Return a way that leads to the person and arrives on the least day."""
    table = border(timetable, begin, person)
    if table is not None:
        raise NoWay(table)
    heard = {hearer: day for day, hearer in arrivals(timetable, begin)}
    steps = []
    while person != begin:
        step = _first_telling(timetable, heard, person)
        steps.append(step)
        person = step[2]
    return tuple(steps[::-1])


def _is_told(timetable, step, teller, since):
    """Return True if the step is possible for a teller who has heard on the day `since`."""
    day, meeting, told_by, hearer = step
    if meeting in range(len(timetable.meetings)) and teller == told_by != hearer:
        days, guests = timetable.meetings[meeting]
        # The day is compared last: one that the meeting has is surely a number.
        return teller in guests and hearer in guests and day in days and day > since
    return False


def judge_way(timetable, begin, person, way):
    """Return the day on which the way leads from `begin` to the person, or None if it does not."""
    if begin not in timetable.people:
        return None
    day, teller = 0, begin
    for step in way:
        if not _is_told(timetable, step, teller, day):
            return None
        day, teller = step[0], step[3]
    return day if teller == person else None
