"""Counting the pasts that fit, without going through them where parts of them do not depend on each other."""

from fittingpasts.grids import bits_of, has_many, size_of
from fittingpasts.seeking import Seeker, joined


def _count(web, seeker, rows, active, reach, most):
    """Return in how many ways the variables of `reach` may be chosen in closed rows, but not more than `most`.

    The active knots are all that join them to others, and in at least one way they may be chosen.
    """
    binding = seeker.binding(rows, active)
    groups = joined(list(binding.values()))
    total = 1
    for bit in bits_of(reach & ~sum(groups)):
        total = total * size_of(rows[bit.bit_length() - 1])
    for group in groups:
        if total < most:
            inside = {at: reached for at, reached in binding.items() if reached & group != 0}
            total = total * _count_group(web, seeker, rows, inside, group, most)
    return min(total, most)


def _count_group(web, seeker, rows, binding, group, most):
    """Return `_count` for a group of variables that the binding knots join: each value of one of them in turn."""
    active = sum([1 << at for at in binding])
    place = seeker.branch(rows, binding)
    total = 0
    for bit in bits_of(rows[place]):
        less, _ = web.chosen(rows, place, bit, active)
        if 0 not in less and seeker.free_part(less, active) is not None:
            total += _count(web, seeker, less, active, group, most - total)
        if total >= most:
            break
    return total


def count_fitting(web, rows, active, most):
    """Return how many pasts in the rows fit the active knots, but not more than `most`."""
    seeker = Seeker(web)
    closed = web.closed(rows, active)
    if 0 in closed or seeker.free_part(closed, active) is None:
        return 0
    reach = sum([1 << place for place, row in enumerate(closed) if has_many(row)])
    return _count(web, seeker, closed, active, reach, most)
