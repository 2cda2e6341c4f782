"""Covering: which values some fitting past has, found by few pasts that have many of them."""

from fittingpasts.grids import size_of
from fittingpasts.seeking import are_spread, narrowed


def _next_value(rows, covered):
    """Return the index of a variable and the bit of a value that is not covered yet, or None.

    The variables with few values come first: where they have a value in vain, the search for others is long.
    """
    open_rows = [
        (size_of(row), place) for place, (row, seen) in enumerate(zip(rows, covered)) if row & ~seen != 0
    ]
    if not open_rows:
        return None
    place = min(open_rows)[1]
    left = rows[place] & ~covered[place]
    return place, left & -left


def _still_free(web, seeker, rows, more, parts):
    """Return the list of what is free in the rows of free parts, if more knots are active than those of the parts."""
    found = []
    for part, knots in parts:
        active = knots | more
        less = web.closed([row & other for row, other in zip(part, rows)], active)
        if 0 not in less and are_spread(list(seeker.binding(less, active).values())):
            found.append((less, active))
    return found


def _values_around(web, part, wanted, active):
    """Return the rows of a free part, with those of the wanted values for which one past of it may exchange a value."""
    past = narrowed(web, part, wanted)
    return [row | web.allowed(past, at, more, active) for at, (row, more) in enumerate(zip(part[0], wanted))]


def covered_rows(web, seeker, rows, active, more=0, parts=()):
    """Return the rows of the values that fitting pasts in the rows have, and the list of free parts that cover them.

    `parts` are free parts for the active knots without those of `more`: what they cover need not be looked for.
    """
    left = web.closed(rows, active)
    found = _still_free(web, seeker, left, more, parts)
    covered = [0 for _ in left]
    for part, _ in found:
        covered = [seen | row for seen, row in zip(covered, part)]
    wanted = _next_value(left, covered)
    while wanted is not None:
        place, bit = wanted
        less, _ = web.chosen(left, place, bit, active)
        open_rows = [row & ~seen for row, seen in zip(left, covered)]
        part = None if 0 in less else seeker.free_part(less, active, open_rows)
        if part is None:
            left, _ = web.chosen(left, place, left[place] - bit, active)
        else:
            found.append(part)
            around = _values_around(web, part, open_rows, active)
            covered = [seen | row for seen, row in zip(covered, around)]
        if 0 in left:
            return [0 for _ in left], []
        wanted = _next_value(left, covered)
    return left, found
