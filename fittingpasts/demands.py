"""Rolls with a hidden mark, the age: what a rule demands of the ages of rolls."""

SIGNS = (-1, 0, 1)


def demand(rule, first, second):
    """Return the tuple of the signs of the ages with which the first roll does not come after the second."""
    return tuple([sign for sign in SIGNS if rule.compare((*first, sign), (*second, 0)) != 1])


def shelf_demands(rule, shelf):
    """Return the list of the triples of two indexes and a demand that does not have all signs, ascending."""
    demands = [
        (first, second, demand(rule, shelf[first], shelf[second]))
        for first in range(len(shelf))
        for second in range(first + 1, len(shelf))
    ]
    return [triple for triple in demands if triple[2] != SIGNS]
