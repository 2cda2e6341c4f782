"""Cycles: pairs (length, shift), which show the place (day + shift) mod length on a day."""

from fittingpasts.errors import Disjoint, OutOfRange
from fittingpasts.residues import Residue


def place_on(cycle, day):
    """Return the place that the cycle shows on the day."""
    length, shift = cycle
    return (day + shift) % length


def days_at(cycle, place):
    """Return the residue of the days on which the cycle shows the place."""
    length, shift = cycle
    if not 0 <= place < length:
        raise OutOfRange(place)
    return Residue(place - shift, length)


def all_cycles(least, most):
    """Return the list of all cycles with a length from `least` to `most`, ascending."""
    return [(length, shift) for length in range(least, most + 1) for shift in range(length)]


def moved(cycle, days):
    """Return the cycle that shows so many days later what this one shows."""
    length, shift = cycle
    return (length, (shift - days) % length)


def turns(cycle, first, last):
    """Return on how many days from `first` to `last` the cycle shows the place 0."""
    return days_at(cycle, 0).count_in(first, last)


def is_whole(inner, outer):
    """Return True if the inner cycle is whole in the outer one."""
    return outer[0] % inner[0] == 0 and outer[1] % inner[0] == inner[1]


def whole_outers(inner, least, most):
    """Return the list of the cycles with such a length in which the inner one is whole, ascending."""
    return [outer for outer in all_cycles(least, most) if is_whole(inner, outer)]


def next_day(cycles, places, start):
    """Return the least day from `start` on which each cycle shows its place, or None."""
    # All places are looked at before any residues meet: a wrong place counts more than no common day.
    residues = [days_at(cycle, place) for cycle, place in zip(cycles, places)]
    try:
        return Residue.meet(*residues).first_from(start)
    except Disjoint:
        return None
