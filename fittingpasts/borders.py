"""Borders: tables that show that the news does not reach a person in time, and whom all ways pass."""

from fittingpasts.errors import NoWay
from fittingpasts.timetables import arrivals
from fittingpasts.words import check_known


def _hears_by(table, person, by):
    """Return True if the table has the person with a day of at most `by`; None is later than all days."""
    return any([other == person and (by is None or day <= by) for other, day in table])


def border(timetable, begin, person, *, by=None, silent=()):
    """Return the table of who hears when, in the order of the people, or None if the person hears in time."""
    quiet = tuple(silent)
    check_known((begin, person, *quiet), timetable.people)
    heard = {hearer: day for day, hearer in arrivals(timetable, begin, silent=quiet)}
    table = tuple([(other, heard[other]) for other in timetable.people if other in heard])
    return None if _hears_by(table, person, by) else table


def _tells_in_time(timetable, heard, teller):
    """Return True if all whom the teller may first tell something hear at the latest then."""
    for days, guests in timetable.meetings:
        later = [day for day in days if day > heard[teller]]
        if teller in guests and later and not all([guest in heard and heard[guest] <= later[0] for guest in guests]):
            return False
    return True


def judge_border(timetable, begin, person, table, *, by=None, silent=()):
    """Return True if the table is a border against the person, the day and the silent people."""
    names = [name for name, _ in table]
    if person not in timetable.people or len(set(names)) < len(names):
        return False
    if not all([name in timetable.people and day >= 0 for name, day in table]):
        return False
    if (begin, 0) not in table or _hears_by(table, person, by):
        return False
    heard = {name: day for name, day in table}
    return all([name in silent or _tells_in_time(timetable, heard, name) for name in names])


def gatekeepers(timetable, begin, person, *, by=None):
    """Return the list of the people who are a teller in every way to the person that arrives in time."""
    table = border(timetable, begin, person, by=by)
    if table is not None:
        raise NoWay(table)
    return [
        other for other in timetable.people
        if border(timetable, begin, person, by=by, silent=(other,)) is not None
    ]
