"""Trees of stays: each stay is kept at a few stretches of days, which are halves of halves of all days."""

from fittingpasts.errors import InvalidName, OutOfRange, UnknownName
from fittingpasts.stays import Stay
from fittingpasts.words import is_name

GREATEST_LAST = 1000


def _halves(node):
    """Return the two halves of a node that is not a leaf."""
    low, high = node
    middle = (low + high) // 2
    return ((low, middle), (middle + 1, high))


def _nodes_for(stay, node):
    """Return the list of the nodes at which a stay is kept, of this node and those below it, ascending."""
    low, high = node
    if high < stay.come or stay.go < low:
        return []
    if stay.come <= low and high <= stay.go:
        return [node]
    first, second = _halves(node)
    return _nodes_for(stay, first) + _nodes_for(stay, second)


def _from_root(node):
    """Return a key that puts a node ahead of its halves, and the first half ahead of the second."""
    return (node[0], -node[1])


class StayTree:
    """The stays of people, kept at the nodes of a tree over the days from 0 to `last`."""

    def __init__(self, last):
        if not 0 <= last <= GREATEST_LAST:
            raise OutOfRange(last)
        self.last = last
        self._stays = {}
        self._people_at = {}

    def __getitem__(self, person):
        if person not in self._stays:
            raise UnknownName(person)
        stay = self._stays[person]
        return Stay(stay.come, stay.go)

    # Without this Python would ask for the items 0, 1, 2 .. as if they were people.
    def __iter__(self):
        raise TypeError("a tree of stays is not iterated over")

    def __setitem__(self, person, stay):
        self.keep(person, stay)

    def __contains__(self, person):
        return person in self._stays

    @property
    def size(self):
        """The number of people with a stay."""
        return len(self._stays)

    def _check_stay(self, stay):
        """Raise an error if the stay has a day outside of the tree."""
        if stay.come < 0:
            raise OutOfRange(stay.come)
        if stay.go > self.last:
            raise OutOfRange(stay.go)

    def keep(self, person, stay):
        """Keep the stay of a person, instead of an earlier one."""
        if not is_name(person):
            raise InvalidName(person)
        self._check_stay(stay)
        if person in self._stays:
            self.leave(person)
        self._stays[person] = Stay(stay.come, stay.go)
        for node in self.nodes_of(person):
            people = self._people_at.get(node, [])
            self._people_at[node] = sorted([*people, person])

    def leave(self, person):
        """Take out the stay of a person, and return it."""
        stay = self[person]
        for node in self.nodes_of(person):
            self._people_at[node].remove(person)
            if len(self._people_at[node]) == 0:
                del self._people_at[node]
        del self._stays[person]
        return stay

    def nodes_of(self, person):
        """Return the list of the nodes at which the person's stay is kept, ascending."""
        return _nodes_for(self[person], (0, self.last))

    def path(self, day):
        """Return the list of the nodes from the root to the leaf of the day."""
        if not 0 <= day <= self.last:
            raise OutOfRange(day)
        node = (0, self.last)
        nodes = [node]
        while node[0] < node[1]:
            first, second = _halves(node)
            node = first if day <= first[1] else second
            nodes.append(node)
        return nodes

    def who_on(self, day):
        """Return the list of the people who are there on the day, ascending."""
        people = []
        for node in self.path(day):
            people.extend(self._people_at.get(node, []))
        return sorted(people)

    def throughout(self, stay):
        """Return the list of the people who are there on every day of the stay, ascending."""
        self._check_stay(stay)
        return sorted([person for person in self._stays if stay.within(self._stays[person])])

    def shape(self):
        """Return the list of the triples (low, high, people) of the nodes at which a stay is kept."""
        nodes = sorted(list(self._people_at), key=_from_root)
        return [(*node, tuple(self._people_at[node])) for node in nodes]

    def crowd(self):
        """Return the greatest number of people who are there on one day, and the first such day."""
        changes = [0 for _ in range(self.last + 2)]
        for stay in self._stays.values():
            changes[stay.come] += 1
            changes[stay.go + 1] -= 1
        most = (0, 0)
        many = 0
        for day in range(self.last + 1):
            many += changes[day]
            if many > most[0]:
                most = (many, day)
        return most

    def twin(self):
        """Return an independent tree with the same stays."""
        tree = StayTree(self.last)
        for person in list(self._stays):
            tree.keep(person, self[person])
        return tree
