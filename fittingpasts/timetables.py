"""Timetables of meetings, and on which days the news can reach whom."""

from fittingpasts.errors import InvalidMeeting, TooMany
from fittingpasts.words import check_known, check_names

MOST_PEOPLE = 8
MOST_MEETINGS = 12


def _is_meeting(days, guests, people):
    """Return True if the days ascend from 0 on, and two or more different people are the guests."""
    if len(days) == 0 or days[0] < 0 or not all([day < later for day, later in zip(days, days[1:])]):
        return False
    if len(guests) < 2 or len(set(guests)) < len(guests):
        return False
    return all([guest in people for guest in guests])


class Timetable:
    """People, and meetings: pairs of the days on which they may have been, and the guests."""

    def __init__(self, people, meetings):
        people = tuple(people)
        meetings = tuple([(tuple(days), tuple(guests)) for days, guests in meetings])
        check_names(people, MOST_PEOPLE)
        if len(meetings) > MOST_MEETINGS:
            raise TooMany(MOST_MEETINGS)
        for at, (days, guests) in enumerate(meetings):
            if not _is_meeting(days, guests, people):
                raise InvalidMeeting(at)
        self.people = people
        self.meetings = meetings

    def __eq__(self, other):
        return isinstance(other, Timetable) and self.people == other.people and self.meetings == other.meetings


def _hearers(timetable, heard, silent, day):
    """Return the list of the people who first hear the news on the day, in the order of the people."""
    told = []
    for days, guests in timetable.meetings:
        tellers = [guest for guest in guests if guest not in silent and guest in heard and heard[guest] < day]
        if day in days and tellers:
            told.extend(guests)
    return [person for person in timetable.people if person in told and person not in heard]


def arrivals(timetable, begin, *, silent=()):
    """Yield the pair (day, person) for each person whom the news can reach, with the least day."""
    quiet = tuple(silent)
    check_known((begin, *quiet), timetable.people)
    heard = {begin: 0}
    yield (0, begin)
    for day in sorted({met for days, _ in timetable.meetings for met in days}):
        for person in _hearers(timetable, heard, quiet, day):
            heard[person] = day
            yield (day, person)
