"""Stays that fit notes of the days on which a person was seen in the house, or was not there."""

from fittingpasts.errors import NoStay, OutOfRange
from fittingpasts.stays import Stay


def _check_days(notes, last):
    """Raise an error for the first note whose day is not from 0 to `last`."""
    for day, _ in notes:
        if not 0 <= day <= last:
            raise OutOfRange(day)


def _noted(notes, seen):
    """Return the list of the pairs (day, index) of the notes that were seen, or that were not, ascending."""
    return sorted([(note[0], at) for at, note in enumerate(notes) if note[1] == seen])


def _days(noted):
    """Return the list of the days of such pairs."""
    return [day for day, _ in noted]


def fitting_stays(notes, last):
    """Yield the fitting stays, ascending by the day of coming, then by the day of going."""
    stretches = greatest_stays(notes, last)
    seen = _days(_noted(notes, True))
    for stretch in stretches:
        latest = min(seen, default=stretch.go)
        for come in range(stretch.come, latest + 1):
            for go in range(max([come, *seen]), stretch.go + 1):
                yield Stay(come, go)


def least_stays(notes, last):
    """Return the list of the fitting stays within which no other fitting stay lies."""
    stretches = greatest_stays(notes, last)
    seen = _days(_noted(notes, True))
    if stretches and seen:
        return [Stay.around(seen)]
    return [Stay(day, day) for stretch in stretches for day in range(stretch.come, stretch.go + 1)]


def greatest_stays(notes, last):
    """Return the list of the fitting stays that lie within no other fitting stay."""
    _check_days(notes, last)
    stretches = []
    come = 0
    for away in [*_days(_noted(notes, False)), last + 1]:
        if come < away:
            stretches.append(Stay(come, away - 1))
        come = away + 1
    seen = _days(_noted(notes, True))
    return [stretch for stretch in stretches if all([day in stretch for day in seen])]


def stay_bounds(notes, last):
    """Return the least and the greatest coming, and the least and the greatest going of all fitting stays."""
    bar = stay_bar(notes, last)
    if bar is not None:
        raise NoStay(bar)
    least = least_stays(notes, last)
    greatest = greatest_stays(notes, last)
    return (greatest[0].come, least[-1].come, least[0].go, greatest[-1].go)


class StayBar:
    """The certificate that no stay fits: a kind, and the indexes of the notes that show it."""

    def __init__(self, kind, indexes):
        self.kind = kind
        self.indexes = tuple(indexes)


def stay_bar(notes, last):
    """Return a right bar, or None if a stay fits."""
    if greatest_stays(notes, last):
        return None
    seen = _noted(notes, True)
    away = _noted(notes, False)
    if not seen:
        # Nobody was seen, and still no stay fits: there is a note against every day.
        first_notes = {day: at for day, at in away[::-1]}
        return StayBar("shut", [first_notes[day] for day in range(last + 1)])
    between = [at for day, at in away if seen[0][0] <= day <= seen[-1][0]]
    return StayBar("parted", (seen[0][1], between[0], seen[-1][1]))


def judge_bar(notes, last, bar):
    """Return True if the bar is right: then no stay fits the notes."""
    _check_days(notes, last)
    if not all([0 <= at < len(notes) for at in bar.indexes]):
        return False
    days = [notes[at][0] for at in bar.indexes]
    seen = [notes[at][1] for at in bar.indexes]
    if bar.kind == "shut":
        return days == list(range(last + 1)) and True not in seen
    return bar.kind == "parted" and seen == [True, False, True] and days == sorted(days)


def surely_on(notes, last, day):
    """Return whether all fitting stays have the day, none has it, or some have it: sure, never, open, or void."""
    greatest = greatest_stays(notes, last)
    if not greatest:
        return "void"
    if all([day in stay for stay in least_stays(notes, last)]):
        return "sure"
    if not any([day in stay for stay in greatest]):
        return "never"
    return "open"


def _first_pair(stays, others, meeting):
    """Return the first pair of stays that meet, or that do not, or None."""
    for stay in stays:
        for other in others:
            if stay.meets(other) == meeting:
                return (stay, other)
    return None


def meeting_pairs(notes, other, last):
    """Return the first pair of least stays without a common day, and of greatest stays with one."""
    apart = _first_pair(least_stays(notes, last), least_stays(other, last), False)
    together = _first_pair(greatest_stays(notes, last), greatest_stays(other, last), True)
    return (apart, together)
