"""Orders over names, and the lines that keep them.

A set of names is an integer here: the bit at an index tells whether the name at this index is in it.
"""

from fittingpasts.errors import OutOfRange, RingFound, UnfitLine, UnlikeNames
from fittingpasts.words import check_known, check_names

MOST_NAMES = 10


def _has(some, at):
    """Return True if the set has the name at the index."""
    return (some >> at) & 1 == 1


def _with(some, at):
    """Return the set with the name at the index as well."""
    return some | (1 << at)


def _closed(many, steps):
    """Return for each of so many names the set of the names behind it, along pairs of indexes."""
    behind = [0 for _ in range(many)]
    for first, second in steps:
        behind[first] = _with(behind[first], second)
    for middle in range(many):
        for first in range(many):
            if _has(behind[first], middle):
                behind[first] = behind[first] | behind[middle]
    return tuple(behind)


def _opposite(behind):
    """Return for each name the set of the names ahead of it."""
    many = range(len(behind))
    return tuple([sum([1 << first for first in many if _has(behind[first], at)]) for at in many])


def _ring_of(steps, behind):
    """Return the list of the indexes of a ring along the pairs of indexes; it is empty if there is none."""
    looped = [at for at, some in enumerate(behind) if _has(some, at)]
    walk = list(looped[:1])
    while walk != []:
        # From a name that is behind itself some pair leads to another such name, so the walk never ends alone.
        onward = [second for first, second in steps if first == walk[-1] and second in looped][0]
        if onward in walk:
            return walk[walk.index(onward):]
        walk.append(onward)
    return walk


class Order:
    """The smallest set of pairs of names that has the given pairs and whatever follows from them."""

    def __init__(self, names, pairs):
        names = tuple(names)
        check_names(names, MOST_NAMES)
        for pair in pairs:
            check_known(pair, names)
        steps = [(names.index(first), names.index(second)) for first, second in pairs]
        behind = _closed(len(names), steps)
        ring = _ring_of(steps, behind)
        if ring != []:
            raise RingFound(tuple([names[at] for at in ring]))
        self.names = names
        self._behind = behind
        self._ahead = _opposite(behind)

    def __eq__(self, other):
        return isinstance(other, Order) and self.names == other.names and self._behind == other._behind

    def __contains__(self, pair):
        first, second = pair
        return first in self.names and second in self.names and self.ahead(first, second)

    def __or__(self, other):
        """Return the smallest order that has the pairs of both."""
        self._check_alike(other)
        return Order(self.names, self.pairs() + other.pairs())

    def __and__(self, other):
        """Return the order of the pairs that both have."""
        self._check_alike(other)
        return Order(self.names, [pair for pair in self.pairs() if pair in other])

    def _check_alike(self, other):
        if self.names != other.names:
            raise UnlikeNames()

    def ahead(self, first, second):
        """Return True if the first name stands before the second one."""
        check_known((first, second), self.names)
        return _has(self._behind[self.names.index(first)], self.names.index(second))

    def _named(self, pairs):
        """Return the list of the pairs of names at the pairs of indexes."""
        return [(self.names[first], self.names[second]) for first, second in pairs]

    def pairs(self):
        """Return the list of the pairs of the order."""
        many = range(len(self.names))
        return self._named([(at, later) for at in many for later in many if _has(self._behind[at], later)])

    def reduced(self):
        """Return the list of the pairs that do not follow from two others."""
        many = range(len(self.names))
        return self._named([
            (at, later)
            for at in many
            for later in many
            if _has(self._behind[at], later) and self._behind[at] & self._ahead[later] == 0
        ])

    def open_pairs(self):
        """Return the list of the pairs of names of which neither stands before the other."""
        many = range(len(self.names))
        return self._named([
            (at, later)
            for at in many
            for later in many
            if at < later and not _has(self._behind[at] | self._ahead[at], later)
        ])

    def part_of(self, other):
        """Return True if `other` has all pairs of this order."""
        self._check_alike(other)
        return all([pair in other for pair in self.pairs()])

    def _next_of(self, placed):
        """Return the list of the indexes of the names that may come next behind a set of names, ascending."""
        return [
            at for at, needed in enumerate(self._ahead)
            if not _has(placed, at) and needed & placed == needed
        ]

    def _outer_line(self, choice):
        """Return the line that takes at each place the same choice of those that may come next."""
        placed = 0
        line = []
        for _ in self.names:
            at = self._next_of(placed)[choice]
            placed = _with(placed, at)
            line.append(self.names[at])
        return tuple(line)

    def least_line(self):
        """Return the least line."""
        return self._outer_line(0)

    def greatest_line(self):
        """Return the greatest line."""
        return self._outer_line(-1)

    def place_bounds(self, name):
        """Return the pair of the least and the greatest index that the name has in any line."""
        check_known((name,), self.names)
        at = self.names.index(name)
        many = range(len(self.names))
        ahead = len([other for other in many if _has(self._ahead[at], other)])
        behind = len([other for other in many if _has(self._behind[at], other)])
        return (ahead, len(self.names) - 1 - behind)

    def _counts(self):
        """Return for each set of placed names in how many ways the others may follow."""
        all_placed = (1 << len(self.names)) - 1
        counts = [1 for _ in range(all_placed + 1)]
        for placed in range(all_placed - 1, -1, -1):
            counts[placed] = sum([counts[_with(placed, at)] for at in self._next_of(placed)])
        return counts

    def count_lines(self):
        """Return how many lines there are."""
        return self._counts()[0]

    def lines(self):
        """Yield all lines, ascending, each as soon as it is found."""
        yield from self._lines_from(0, ())

    def _lines_from(self, placed, line):
        """Yield all lines that begin with the placed names in this sequence."""
        if len(line) == len(self.names):
            yield line
        for at in self._next_of(placed):
            later = _with(placed, at)
            longer = (*line, self.names[at])
            yield from self._lines_from(later, longer)

    def line_at(self, number):
        """Return the line with this number."""
        counts = self._counts()
        if not 0 <= number < counts[0]:
            raise OutOfRange(number)
        placed = 0
        line = []
        for _ in self.names:
            following = self._next_of(placed)
            while number >= counts[_with(placed, following[0])]:
                number -= counts[_with(placed, following[0])]
                following = following[1:]
            placed = _with(placed, following[0])
            line.append(self.names[following[0]])
        return tuple(line)

    def number_of(self, line):
        """Return the number of the line; raise UnfitLine if it is none."""
        counts = self._counts()
        placed = 0
        number = 0
        for place, name in enumerate(line):
            following = self._next_of(placed)
            if name not in self.names or self.names.index(name) not in following:
                raise UnfitLine(place)
            at = self.names.index(name)
            number += sum([counts[_with(placed, other)] for other in following if other < at])
            placed = _with(placed, at)
        if len(line) < len(self.names):
            raise UnfitLine(len(line))
        return number
