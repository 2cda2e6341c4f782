"""Looking for pasts in a lot that fit the papers, and for the values that they have."""

from fittingpasts.closing import check_given, lot_of_rows, rows_given
from fittingpasts.counting import count_fitting
from fittingpasts.covering import covered_rows
from fittingpasts.grids import bits_of, has_many
from fittingpasts.past import Past
from fittingpasts.seeking import Seeker
from fittingpasts.webs import Web


def _smaller_part(web, seeker, less, active, part, place, bit):
    """Return a free part of the rows `less`, in which a row has only the value of the bit, or None.

    `part` is a free part of the rows from which they come.
    """
    if 0 in less:
        return None
    rows, knots = part
    if rows[place] & bit == 0:
        return seeker.free_part(less, active)
    smaller, _ = web.chosen(rows, place, bit, knots)
    return smaller, knots


def _walk(web, seeker, rows, active, part):
    """Yield the rows with one value each of all pasts in closed rows that fit, ascending.

    `part` is a free part of the rows, so that no way is walked in vain.
    """
    places = [place for place, row in enumerate(rows) if has_many(row)]
    if not places:
        yield rows
    for place in places[:1]:
        for bit in bits_of(rows[place]):
            less, _ = web.chosen(rows, place, bit, active)
            smaller = _smaller_part(web, seeker, less, active, part, place, bit)
            if smaller is not None:
                yield from _walk(web, seeker, less, active, smaller)


def fitting_rows(web, seeker, rows, active):
    """Yield the rows with one value each of all pasts in the rows that fit the active knots, ascending."""
    closed = web.closed(rows, active)
    part = None if 0 in closed else seeker.free_part(closed, active)
    if part is not None:
        yield from _walk(web, seeker, closed, active, part)


def past_of_rows(web, rows):
    """Return the past that has the one value of each row."""
    return Past(web.grid.frame, [web.grid.values_in(place, row)[0] for place, row in enumerate(rows)])


def pasts(frame, papers=(), lot=None):
    """Yield all pasts in the lot that fit the papers, ascending, each as soon as it is found."""
    check_given(frame, papers, lot)
    web = Web(frame, papers)
    seeker = Seeker(web)
    rows = rows_given(web, lot)
    active = web.all_knots
    for found in fitting_rows(web, seeker, rows, active):
        yield past_of_rows(web, found)


def least_past(web, seeker, rows, active):
    """Return the least past in the rows that fits the active knots, or None."""
    for found in fitting_rows(web, seeker, rows, active):
        return past_of_rows(web, found)
    return None


def first_past(frame, papers=(), lot=None):
    """Return the least past in the lot that fits the papers, or None."""
    for past in pasts(frame, papers, lot):
        return past
    return None


def count_pasts(frame, papers=(), *, most=1000):
    """Return how many pasts fit, but not more than `most`."""
    check_given(frame, papers, None)
    web = Web(frame, papers)
    return count_fitting(web, web.grid.wholes, web.all_knots, most)


def true_lot(frame, papers=()):
    """Return the least lot that has all pasts that fit."""
    check_given(frame, papers, None)
    web = Web(frame, papers)
    rows, _ = covered_rows(web, Seeker(web), web.grid.wholes, web.all_knots)
    return lot_of_rows(web, rows)
