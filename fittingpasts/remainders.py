"""Remainders by an unknown length: which cycles meet the sightings, which lengths are shut, and why."""

from math import gcd

from fittingpasts.cycles import all_cycles, place_on
from fittingpasts.words import as_tuples


def _demand(sighting, length):
    """Return the shift that a sighting demands of a cycle of this length, or None if no shift does."""
    day, place = sighting
    if place >= length:
        return None
    return (place - day) % length


def remainder_row(sightings, length):
    """Return the tuple of the shifts that the sightings demand of a cycle of this length."""
    return tuple([_demand(sighting, length) for sighting in sightings])


def fitting_cycles(sightings, least, most):
    """Return the list of the cycles with a length from `least` to `most` that meet all sightings."""
    if len(sightings) == 0:
        return all_cycles(least, most)
    return [
        (length, _demand(sightings[0], length))
        for length in range(least, most + 1)
        if _shut_by(remainder_row(sightings, length)) is None
    ]


def common_divisor(sightings):
    """Return the greatest common divisor of the differences of place - day; every length divides 0."""
    differences = [place - day for day, place in sightings]
    divisor = 0
    for difference in differences:
        divisor = gcd(divisor, difference - differences[0])
    return divisor


class RemainderTable:
    """The certificate of shut lengths: triples of a length and two indexes of sightings."""

    def __init__(self, rows):
        self.rows = as_tuples(rows)


def _shut_by(row):
    """Return the least pair of indexes that shuts the length of a remainder row, or None."""
    for at, shift in enumerate(row):
        # All shifts ahead of this one equal the first, so the first index is in the least pair.
        if shift is not None and row[0] is not None and shift != row[0]:
            return (0, at)
    for at, shift in enumerate(row):
        if shift is None:
            return (at, at)
    return None


def shut_lengths(sightings, least, most):
    """Return the table of the shut lengths from `least` to `most`, each with its least pair."""
    rows = []
    for length in range(least, most + 1):
        pair = _shut_by(remainder_row(sightings, length))
        if pair is not None:
            rows.append((length, *pair))
    return RemainderTable(rows)


def _is_shut(row, first, second):
    """Return True if the two indexes shut the length of a remainder row."""
    if not 0 <= first <= second < len(row):
        return False
    if first == second:
        return row[first] is None
    return row[first] is not None and row[second] is not None and row[first] != row[second]


def judge_table(sightings, least, most, table):
    """Return True if the table has exactly the shut lengths, ascending, each with a pair that fits."""
    shut = [length for length, _, _ in shut_lengths(sightings, least, most).rows]
    if [length for length, _, _ in table.rows] != shut:
        return False
    return all([_is_shut(remainder_row(sightings, row[0]), row[1], row[2]) for row in table.rows])


def gap_places(place, gap, least, most):
    """Return the list of the places that a cycle may show `gap` days after it shows `place`."""
    # Without a shift a cycle shows the place on the day of the same number, if it has the place.
    lengths = [length for length in range(least, most + 1) if place < length]
    return sorted({place_on((length, 0), place + gap) for length in lengths})


def possible_gaps(place, other, least, most, span):
    """Return the list of the gaps from 0 to `span` after which a cycle may show `other`."""
    lengths = [length for length in range(least, most + 1) if place < length and 0 <= other < length]
    return sorted({gap for length in lengths for gap in range((other - place) % length, span + 1, length)})
