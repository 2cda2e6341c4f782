"""Deadlines: until when a person must have heard the news, so that another one hears it in time."""

from fittingpasts.errors import OutOfRange
from fittingpasts.timetables import arrivals
from fittingpasts.words import check_known


def _tellers(timetable, latest, day):
    """Return the list of the people without a deadline who meet somebody with a deadline on the day."""
    found = []
    for days, guests in timetable.meetings:
        if day in days and any([guest in latest for guest in guests]):
            found.extend([guest for guest in guests if guest not in latest])
    return found


def _latest_days(timetable, person, by):
    """Return a dict of the greatest days on which people may hear so that the person hears by the day `by`."""
    latest = {person: by}
    # From the last day back: whoever has a deadline already may still hear on the day at hand.
    for day in sorted({met for days, _ in timetable.meetings for met in days if 0 < met <= by})[::-1]:
        for other in _tellers(timetable, latest, day):
            latest[other] = day - 1
    return latest


def deadlines(timetable, person, by):
    """Return the list of the pairs of people and the greatest days on which they may hear."""
    check_known((person,), timetable.people)
    if by < 0:
        raise OutOfRange(by)
    latest = _latest_days(timetable, person, by)
    return [(other, latest[other]) for other in timetable.people if other in latest]


def carriers(timetable, begin, person, by):
    """Return the list of the people who have the news on some way to the person that arrives by the day `by`."""
    check_known((begin, person), timetable.people)
    if by < 0:
        raise OutOfRange(by)
    latest = _latest_days(timetable, person, by)
    heard = {hearer: day for day, hearer in arrivals(timetable, begin)}
    return [other for other in timetable.people if other in heard and other in latest and heard[other] <= latest[other]]
