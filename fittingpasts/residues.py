"""Residues: the days that leave one remainder by a length."""

from math import gcd

from fittingpasts.errors import Disjoint, OutOfRange


def _inverse(number, length):
    """Return a factor with which the number leaves 1 by the length; the two have no common divisor."""
    rest, divisor = number, length
    factor, later = 1, 0
    while divisor != 0:
        times = rest // divisor
        rest, divisor = divisor, rest - times * divisor
        factor, later = later, factor - times * later
    return factor % length


class Residue:
    """All days x, also negative ones, for which x - place is a multiple of the length."""

    def __init__(self, place, length):
        if length < 1:
            raise OutOfRange(length)
        self.place = place % length
        self.length = length

    def __eq__(self, other):
        return isinstance(other, Residue) and self.place == other.place and self.length == other.length

    def __str__(self):
        return f"{self.place} mod {self.length}"

    def __contains__(self, day):
        return (day - self.place) % self.length == 0

    def __add__(self, many):
        return Residue(self.place + many, self.length)

    def __sub__(self, many):
        return Residue(self.place - many, self.length)

    def __neg__(self):
        return Residue(-self.place, self.length)

    def __and__(self, other):
        """Return the residue of the common days; raise Disjoint if there is none."""
        divisor = gcd(self.length, other.length)
        gap = other.place - self.place
        if gap % divisor != 0:
            raise Disjoint(divisor)
        # The common divisor is taken out, so that what is left of the first length has an inverse.
        rest = other.length // divisor
        turns = (gap // divisor) * _inverse(self.length // divisor, rest) % rest
        return Residue(self.place + turns * self.length, self.length * rest)

    def first_from(self, day):
        """Return the least day of the residue that is not less than `day`."""
        return day + (self.place - day) % self.length

    def last_until(self, day):
        """Return the greatest day of the residue that is not greater than `day`."""
        return day - (day - self.place) % self.length

    def count_in(self, first, last):
        """Return how many days of the residue are from `first` to `last`."""
        start = self.first_from(first)
        if last < start:
            return 0
        return (last - start) // self.length + 1

    def members(self, first, last):
        """Yield the days of the residue from `first` to `last`, ascending."""
        day = self.first_from(first)
        while day <= last:
            yield day
            day += self.length

    def part_of(self, other):
        """Return True if `other` has all days of this residue."""
        return self.length % other.length == 0 and self.place in other

    def scaled(self, factor):
        """Return the residue of the days of this one, each multiplied by the factor."""
        if factor < 1:
            raise OutOfRange(factor)
        return Residue(self.place * factor, self.length * factor)

    @staticmethod
    def every():
        """Return the residue of all days."""
        return Residue(0, 1)

    @staticmethod
    def meet(*residues):
        """Return the residue of the days that all residues have; raise the first Disjoint."""
        common = Residue.every()
        for residue in residues:
            common = common & residue
        return common
