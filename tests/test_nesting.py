import itertools
import unittest

from fittingpasts.errors import BadMove, Crossing
from fittingpasts.nesting import nest, stretches_of
from fittingpasts.stacks import rests
from fittingpasts.stays import Stay
from tests.helpers import BIG, Case

SMALL = [Stay(come, go) for come in range(4) for go in range(come, 4)]


def under(stays, low, high):
    """Stay `low` lies under stay `high`, by the words of the document."""
    return low != high and stays[low].within(stays[high]) and (stays[low] != stays[high] or low > high)


def parents(stays):
    many = range(len(stays))
    found = []
    for low in many:
        above = [high for high in many if under(stays, low, high)]
        nearest = [a for a in above if all(a == b or under(stays, a, b) for b in above)]
        found.append(nearest[0] if nearest else -1)
    return tuple(found)


def all_moves(many):
    """All lists of moves of so many rolls on one stack, the rolls left at the end in any number."""
    rolls = "abcde"[:many]
    rounds = [([], [], 0)]
    while rounds:
        moves, stack, at = rounds.pop()
        if at == many:
            yield moves
        else:
            rounds.append((moves + [("put", rolls[at])], stack + [rolls[at]], at + 1))
        if stack:
            rounds.append((moves + [("take", stack[-1])], stack[:-1], at))


class NestTest(Case):
    def test_against_the_words(self):
        for many in range(4):
            for stays in itertools.product(SMALL, repeat=many):
                crossing = [
                    (a, b) for a, b in itertools.combinations(range(many), 2) if stays[a].crosses(stays[b])
                ]
                if crossing:
                    self.assert_fails(Crossing(*crossing[0]), lambda: nest(stays))
                else:
                    self.assertEqual(nest(list(stays)), parents(stays))

    def test_the_least_pair_that_crosses(self):
        stays = [Stay(0, 20), Stay(15, 25), Stay(3, 6), Stay(1, 4), Stay(5, 9), Stay(2, 3)]
        self.assert_fails(Crossing(0, 1), lambda: nest(stays))
        self.assert_fails(Crossing(1, 2), lambda: nest(stays[1:2] + [Stay(30, 40), Stay(35, 45)] + stays[3:4]))
        self.assert_fails(Crossing(2, 3), lambda: nest([stays[0], Stay(1, 2), stays[2], stays[3], stays[4]]))
        self.assert_fails(Crossing(0, 3), lambda: nest([Stay(5, 9), Stay(0, 1), Stay(1, 3), Stay(3, 6)]))

    def test_equal_and_nested_stays(self):
        self.assertEqual(nest([]), ())
        self.assertEqual(nest([Stay(2, 5)] * 4), (-1, 0, 1, 2))
        self.assertEqual(nest((Stay(3, 4), Stay(0, 9), Stay(2, 5), Stay(2, 5), Stay(7, 9))), (3, -1, 1, 2, 1))
        self.assertEqual(nest([Stay(0, 1), Stay(2, 3)]), (-1, -1))
        self.assertEqual(nest([Stay(1, 2), Stay(-BIG, BIG)]), (1, -1))

    def test_arguments_are_not_changed(self):
        stays = [Stay(3, 4), Stay(0, 9)]
        nest(stays)
        self.assertEqual(stays, [Stay(3, 4), Stay(0, 9)])


class StretchesTest(Case):
    def test_example_of_the_interface(self):
        moves = [("put", "a"), ("put", "b"), ("take", "b"), ("put", "c")]
        self.assertEqual(nest(stretches_of(moves)), (-1, 0, 0))

    def test_rolls_that_were_not_taken(self):
        moves = [("put", "a"), ("put", "b"), ("take", "b"), ("put", "c")]
        self.assertEqual(stretches_of(moves), [Stay(0, 4), Stay(1, 2), Stay(3, 4)])
        self.assertEqual(stretches_of(tuple(moves[:1])), [Stay(0, 1)])
        self.assertEqual(stretches_of([]), [])

    def test_the_parent_is_the_roll_on_which_it_was_laid(self):
        for many in range(5):
            for moves in all_moves(many):
                stretches = stretches_of(moves)
                puts = [roll for word, roll in moves if word == "put"]
                for roll, stretch in zip(puts, stretches):
                    self.assertEqual(moves[stretch.come], ("put", roll))
                    if ("take", roll) in moves:
                        self.assertEqual(moves[stretch.go], ("take", roll))
                    else:
                        self.assertEqual(stretch.go, len(moves))
                laid = [puts.index(below) if below else -1 for _, below in rests(moves)]
                self.assertEqual(nest(stretches), tuple(laid))

    def test_bad_moves(self):
        for moves, at in (
            ([("take", "a")], 0), ([("put", "a"), ("put", "a")], 1), ([("put", "a"), ("drop", "a")], 1),
            ([("put", "a"), ("put", "b"), ("take", "a")], 2), ([("put", "a"), ("take", "a"), ("put", "a")], 2),
        ):
            self.assert_fails(BadMove(at), lambda: stretches_of(moves))


if __name__ == "__main__":
    unittest.main()
