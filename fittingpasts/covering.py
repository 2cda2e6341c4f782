"""Covering: which values some fitting past has, found by few pasts that have many of them."""

from fittingpasts.grids import size_of
from fittingpasts.seeking import Seeker


def _next_value(rows, covered):
    """Return the index of a variable and the bit of a value that is not covered yet, or None."""
    open_rows = [
        (size_of(row), place) for place, (row, seen) in enumerate(zip(rows, covered)) if row & ~seen != 0
    ]
    if not open_rows:
        return None
    place = min(open_rows)[1]
    left = rows[place] & ~covered[place]
    return place, left & -left


def true_rows(web, rows, active):
    """Return the rows of the values that fitting pasts in the rows have."""
    seeker = Seeker(web)
    rows = web.closed(rows, active)
    covered = [0 for _ in rows]
    found = _next_value(rows, covered)
    while found is not None:
        place, bit = found
        wanted = [row & ~seen for row, seen in zip(rows, covered)]
        less, _ = web.chosen(rows, place, bit, active)
        part = None if 0 in less else seeker.free_part(less, active, wanted)
        if part is None:
            rows, _ = web.dropped(rows, place, bit, active)
        else:
            covered = [seen | row for seen, row in zip(covered, part)]
        if 0 in rows:
            return [0 for _ in rows]
        found = _next_value(rows, covered)
    return rows
