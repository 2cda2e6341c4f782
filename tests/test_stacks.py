import itertools
import unittest

from fittingpasts.errors import BadMove, NoMoves, RingFound, UnlikeNames
from fittingpasts.orders import Order
from fittingpasts.stacks import count_taken, first_taken, judge_no_moves, play, rests, stack_moves, taken_lines
from tests.helpers import Case

ROLLS = ("a", "b", "c", "d", "e")


def put(*rolls):
    return [("put", roll) for roll in rolls]


def take(*rolls):
    return [("take", roll) for roll in rolls]


def walks(rolls):
    """All orders in which a stack gives back the rolls, by trying each put and each take."""
    found = set()
    rounds = [(0, (), ())]
    while rounds:
        at, stack, taken = rounds.pop()
        if len(taken) == len(rolls):
            found.add(taken)
        if at < len(rolls):
            rounds.append((at + 1, (*stack, rolls[at]), taken))
        if stack:
            rounds.append((at, stack[:-1], (*taken, stack[-1])))
    return found


class PlayTest(Case):
    def test_what_lies_on_the_stack(self):
        self.assertEqual(play([]), ())
        self.assertEqual(play(put("a", "b")), ("a", "b"))
        self.assertEqual(play(put("a", "b") + take("b") + put("c")), ("a", "c"))
        self.assertEqual(play(tuple(put("a") + take("a"))), ())

    def test_what_the_rolls_were_laid_on(self):
        self.assertEqual(rests([]), [])
        moves = put("b", "a") + take("a") + put("c") + take("c", "b") + put("d", "e")
        self.assertEqual(rests(moves), [("b", ""), ("a", "b"), ("c", "b"), ("d", ""), ("e", "d")])
        self.assertEqual(rests(tuple(moves)), rests(moves))
        self.assertEqual(rests(put("a", "b", "c", "d")), [("a", ""), ("b", "a"), ("c", "b"), ("d", "c")])

    def test_bad_moves(self):
        for moves, at in (
            ([("lay", "a")], 0), (put("a") + [("", "b")], 1), (put("a") + [("Put", "b")], 1),
            (put("a", "a"), 1), (put("a") + take("a") + put("a"), 2), (put("a", "b", "c", "b"), 3),
            (take("a"), 0), (put("a", "b") + take("a"), 2), (put("a") + take("a", "a"), 2),
            (put("a") + take("b"), 1), (put("a") + take("") + put("a"), 1), (take("a") + put("b", "b"), 0),
        ):
            self.assert_fails(BadMove(at), lambda: play(moves))
            self.assert_fails(BadMove(at), lambda: rests(moves))

    def test_moves_are_not_changed_and_lists_are_new(self):
        moves = put("a", "b") + take("b")
        rests(moves).clear()
        play(moves)
        self.assertEqual(moves, [("put", "a"), ("put", "b"), ("take", "b")])
        self.assertEqual(rests(moves), [("a", ""), ("b", "a")])


class MovesTest(Case):
    def test_examples_of_the_interface(self):
        self.assert_fails(NoMoves("a", "b", "c"), lambda: stack_moves(("a", "b", "c"), ("c", "a", "b")))
        moves = [("put", "a"), ("put", "b"), ("take", "b"), ("take", "a")]
        self.assertEqual(stack_moves(("a", "b"), ("b", "a")), moves)

    def test_exactly_one_of_moves_and_three_rolls(self):
        for many in range(6):
            for rolls in (ROLLS[:many], ROLLS[:many][::-1]):
                possible = walks(rolls)
                for taken in itertools.permutations(rolls):
                    if taken in possible:
                        self.check_moves(rolls, taken)
                    else:
                        self.check_three_rolls(rolls, taken)

    def check_moves(self, rolls, taken):
        moves = stack_moves(rolls, taken)
        self.assertIsInstance(moves, list)
        self.assertEqual([roll for word, roll in moves if word == "put"], list(rolls))
        self.assertEqual([roll for word, roll in moves if word == "take"], list(taken))
        self.assertEqual(play(moves), ())
        self.assertEqual(stack_moves(list(rolls), list(taken)), moves)
        for triple in itertools.product(rolls, repeat=3):
            self.assertIs(judge_no_moves(rolls, taken, triple), False)
        # Nothing is put ahead of time: behind each put comes a put, until the next roll to be taken lies there.
        wanted = list(taken)
        for at, (word, roll) in enumerate(moves):
            if word == "take":
                wanted.pop(0)
            elif roll == wanted[0]:
                self.assertEqual(moves[at + 1], ("take", roll))

    def check_three_rolls(self, rolls, taken):
        error = self.caught(NoMoves, lambda: stack_moves(rolls, taken))
        low, middle, high = error.low, error.middle, error.high
        self.assertTrue(rolls.index(low) < rolls.index(middle) < rolls.index(high))
        self.assertTrue(taken.index(high) < taken.index(low) < taken.index(middle))
        self.assertIs(judge_no_moves(rolls, taken, (low, middle, high)), True)

    def test_unlike_names(self):
        for taken in ((), ("a",), ("a", "b", "b"), ("a", "b", "x"), ("a", "a"), ("c", "a", "x")):
            self.assert_fails(UnlikeNames(), lambda: stack_moves(("a", "b", "c"), taken))
        self.assert_fails(UnlikeNames(), lambda: stack_moves((), ("a",)))

    def test_judged_triples(self):
        rolls, taken = ("a", "b", "c", "d"), ("d", "a", "c", "b")
        right = {
            (low, middle, high) for low, middle, high in itertools.combinations(rolls, 3)
            if taken.index(high) < taken.index(low) < taken.index(middle)
        }
        self.assertEqual(right, {("a", "b", "d"), ("a", "c", "d")})
        for triple in itertools.product((*rolls, "x", ""), repeat=3):
            self.assertIs(judge_no_moves(rolls, taken, triple), triple in right)
            self.assertIs(judge_no_moves(list(rolls), list(taken), triple), triple in right)

    def test_judged_triples_for_no_rearrangement(self):
        for taken in (("c", "a"), ("c", "a", "b", "b"), ("c", "a", "x"), ("c", "a", "b", "x"), ()):
            self.assertIs(judge_no_moves(("a", "b", "c"), taken, ("a", "b", "c")), False)
        self.assertIs(judge_no_moves((), (), ("a", "b", "c")), False)


class TakenTest(Case):
    def test_all_lines_ascending(self):
        for many in range(7):
            for rolls in (tuple("abcdef")[:many], tuple("fadbce")[:many]):
                lines = list(taken_lines(rolls))
                expected = sorted(walks(rolls), key=lambda line: [rolls.index(roll) for roll in line])
                self.assertEqual(lines, expected)
                self.assertEqual(len(lines), count_taken(many))
                self.assertEqual(list(taken_lines(list(rolls))), expected)

    def test_eight_rolls(self):
        lines = taken_lines(tuple("hgfedcba"))
        self.assertEqual(next(lines), tuple("hgfedcba"))
        self.assertEqual(1 + len(list(lines)), count_taken(8))

    def test_counts(self):
        self.assertEqual([count_taken(many) for many in range(9)], [1, 1, 2, 5, 14, 42, 132, 429, 1430])
        counts = [1]
        for many in range(200):
            counts.append(sum(counts[k] * counts[many - k] for k in range(many + 1)))
        self.assertEqual([count_taken(many) for many in range(201)], counts)
        self.assertEqual(count_taken(many=200), counts[200])

    def test_first_taken(self):
        for many in range(5):
            rolls = ROLLS[:many]
            pairs = list(itertools.combinations(rolls, 2))
            for some in itertools.chain.from_iterable(itertools.combinations(pairs, k) for k in range(4)):
                for turned in ([], [1], [0, 2]):
                    given = [pair[::-1] if at in turned else pair for at, pair in enumerate(some)]
                    self.check_first(rolls, given)

    def check_first(self, rolls, pairs):
        fits = [
            line for line in itertools.permutations(rolls)
            if line in walks(rolls) and all(line.index(a) < line.index(b) for a, b in pairs)
        ]
        try:
            order = Order(rolls[::-1], pairs)
        except RingFound:
            return
        self.assertEqual(first_taken(rolls, order), fits[0] if fits else None)

    def test_first_taken_where_no_stack_does_it(self):
        order = Order(("a", "b", "c"), [("c", "a"), ("a", "b")])
        self.assertIsNone(first_taken(("a", "b", "c"), order))
        self.assertEqual(first_taken(["b", "a", "c"], order), ("c", "a", "b"))
        self.assertEqual(first_taken((), Order((), ())), ())

    def test_first_taken_with_other_names(self):
        order = Order(("a", "b"), [])
        for rolls in (("a",), ("a", "b", "c"), ("a", "x"), ()):
            self.assert_fails(UnlikeNames(), lambda: first_taken(rolls, order))


if __name__ == "__main__":
    unittest.main()
