"""Nested stays: which stay lies directly under which."""

from fittingpasts.errors import Crossing
from fittingpasts.stacks import play
from fittingpasts.stays import Stay


def _least_crossing(stays):
    """Return the least pair of indexes of two stays that cross; there are such stays."""
    return min([
        (first, second)
        for first, stay in enumerate(stays)
        for second in range(first + 1, len(stays))
        if stay.crosses(stays[second])
    ])


def nest(stays):
    """Return the tuple of the indexes of the parents of the stays, -1 for none; raise Crossing."""
    parents = [-1 for _ in stays]
    above = []
    # A parent comes no later and goes no earlier, and of equal stays it is the one with the smaller index.
    for come, _, at in sorted([(stay.come, -stay.go, at) for at, stay in enumerate(stays)]):
        while above and stays[above[-1]].go < come:
            above.pop()
        if above:
            parents[at] = above[-1]
        # Whatever crosses, some stay crosses the innermost one that has the day of its coming.
        if above and stays[at].crosses(stays[above[-1]]):
            first, second = _least_crossing(stays)
            raise Crossing(first, second)
        above.append(at)
    return tuple(parents)


def stretches_of(moves):
    """Return the list of the stays of the rolls on a stack, from the put to the take, in the order of the puts."""
    left = play(moves)
    taken_at = {roll: len(moves) for roll in left}
    for at, (word, roll) in enumerate(moves):
        if word == "take":
            taken_at[roll] = at
    return [Stay(at, taken_at[roll]) for at, (word, roll) in enumerate(moves) if word == "put"]
