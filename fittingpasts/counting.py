"""Counting the pasts that fit, without going through them where parts of them do not depend on each other."""

from fittingpasts.grids import bits_of, has_many, size_of
from fittingpasts.seeking import Seeker, joined


class Teller:
    """Counts in how many ways the variables of closed rows may be chosen. What was counted is not counted again."""

    def __init__(self, web):
        self._web = web
        self._seeker = Seeker(web)
        # How many ways there are for a group, by the knots that join it and the rows of all their variables.
        self._known = {}

    def some_fit(self, rows, active):
        """Return True if some past in closed rows fits the active knots."""
        return 0 not in rows and self._seeker.free_part(rows, active) is not None

    def ways(self, rows, active, reach, most):
        """Return in how many ways the variables of `reach` may be chosen, but not more than `most`.

        The active knots are all that join them to others, and in at least one way they may be chosen.
        """
        binding = self._seeker.binding(rows, active)
        groups = joined(list(binding.values()))
        total = 1
        for bit in bits_of(reach & ~sum(groups)):
            total = total * size_of(rows[bit.bit_length() - 1])
        for group in groups:
            if total < most:
                inside = {at: reached for at, reached in binding.items() if reached & group != 0}
                total = total * self._count_group(rows, inside, group, most)
        return min(total, most)

    def _key(self, rows, binding):
        """Return on what the number of ways for a group depends that the binding knots join."""
        reach = 0
        for at in binding:
            reach = reach | self._web.knots[at].reach
        return tuple(binding), tuple([rows[bit.bit_length() - 1] for bit in bits_of(reach)])

    def _count_group(self, rows, binding, group, most):
        """Return `ways` for a group of variables that the binding knots join."""
        key = self._key(rows, binding)
        if key not in self._known:
            total = self._count_by_values(rows, binding, group, most)
            if total >= most:
                return total
            self._known[key] = total
        return min(self._known[key], most)

    def _alike(self, rows, place, binding):
        """Return the values of a variable in groups, as rows; those of one group go with the same choices of others."""
        knots = [self._web.knots[at] for at, reach in binding.items() if reach & (1 << place) != 0]
        found = {}
        for bit in bits_of(rows[place]):
            less = [*rows[:place], bit, *rows[place + 1:]]
            key = tuple([knot.boxes_in(less) for knot in knots])
            found[key] = found.get(key, 0) | bit
        return list(found.values())

    def _count_by_values(self, rows, binding, group, most):
        """Return `ways` for a group: each value of one of its variables in turn, and one for all that are alike."""
        active = sum([1 << at for at in binding])
        place = self._seeker.branch(rows, binding)
        total = 0
        for row in self._alike(rows, place, binding):
            less, _ = self._web.chosen(rows, place, row & -row, active)
            if self.some_fit(less, active):
                total += size_of(row) * self.ways(less, active, group, most - total)
            if total >= most:
                break
        return total


def count_fitting(web, rows, active, most):
    """Return how many pasts in the rows fit the active knots, but not more than `most`."""
    teller = Teller(web)
    closed = web.closed(rows, active)
    if not teller.some_fit(closed, active):
        return 0
    reach = sum([1 << place for place, row in enumerate(closed) if has_many(row)])
    return teller.ways(closed, active, reach, most)
