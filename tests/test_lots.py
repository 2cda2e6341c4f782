import unittest

from fittingpasts.errors import InvalidLot, UnknownVariable, UnlikeFrames
from fittingpasts.frames import Frame
from fittingpasts.lots import Lot
from fittingpasts.past import Past
from fittingpasts.variables import values_of, variables
from tests.helpers import Case, Numbers
from tests.houses import FULL, PAIR, irregular_frames, irregular_values
from tests.papers import GREAT

TINY = Frame(("fire", "feast"), ("ann",), last=1)
ROWS = ((0, 1), (1,), ((0, 0), (1, 1)), ("ann",), ((), ("ann",)), (0, 2))


def some_rows(numbers, frame):
    return [
        [value for value in values_of(frame, variable) if numbers.below(3)] for variable in variables(frame)
    ]


def pairs(seed, many):
    """Irregular frames with two irregular lots each, told by their rows as sets."""
    numbers = Numbers(seed)
    for frame in irregular_frames(seed, many):
        yield frame, some_rows(numbers, frame), some_rows(numbers, frame)


class MakingTest(Case):
    def test_the_full_lot(self):
        for frame in (TINY, PAIR, FULL, GREAT):
            rows = tuple(values_of(frame, variable) for variable in variables(frame))
            self.assertEqual(Lot(frame).rows, rows)
            self.assertEqual(Lot(frame, None).frame, frame)
            self.assertEqual(Lot(frame=frame, rows=rows), Lot(frame))

    def test_any_order_and_duplicates(self):
        lot = Lot(TINY, [(1, 0, 1), [1, 1], ((1, 1), (0, 0), (1, 1)), ["ann", "ann"], [("ann",), ()], (2, 0, 0, 2)])
        self.assertEqual(lot.rows, ROWS)
        self.assertIs(type(lot.rows), tuple)
        for row in lot.rows:
            self.assertIs(type(row), tuple)

    def test_lists_are_taken_and_copied(self):
        rows = [[0, 1], [1], [[0, 0], [1, 1]], ["ann"], [[], ["ann"]], [0, 2]]
        lot = Lot(TINY, rows)
        rows[0].clear()
        rows[2][0].append(7)
        rows.clear()
        self.assertEqual(lot.rows, ROWS)

    def test_the_first_variable_with_a_wrong_value(self):
        wrong = [(2, -1), (5,), ((1, 0), (0, 2)), ("ben", ""), (("ben",), ("ann", "fire")), (3, -1)]
        for at, values in enumerate(wrong):
            for value in values:
                rows = [*ROWS[:at], (*ROWS[at], value), *ROWS[at + 1:]]
                self.assert_fails(InvalidLot(variables(TINY)[at]), lambda: Lot(TINY, rows))
                rows = [*ROWS[:at], (value,), *[row[:1] for row in wrong[at + 1:]]]
                self.assert_fails(InvalidLot(variables(TINY)[at]), lambda: Lot(TINY, rows))

    def test_equality(self):
        self.assertEqual(Lot(TINY, ROWS), Lot(TINY, [list(row) for row in ROWS]))
        self.assertNotEqual(Lot(TINY, ROWS), Lot(TINY))
        other = Frame(("fire", "fest"), ("ann",), last=1)
        self.assertEqual(Lot(TINY).rows, Lot(other).rows)
        self.assertNotEqual(Lot(TINY), Lot(other))
        self.assertFalse(Lot(TINY, ROWS) == ROWS)

    def test_lots_are_not_iterated_over(self):
        with self.assertRaises(TypeError):
            list(Lot(TINY))


class RowsTest(Case):
    def test_rows_by_variables(self):
        lot = Lot(TINY, ROWS)
        for variable, row in zip(variables(TINY), ROWS):
            self.assertEqual(lot[variable], row)
        for wrong in (("day", "fall"), ("stay", "fire"), ("begin", "ann"), ("what", "fire"), ("", "")):
            self.assert_fails(UnknownVariable(wrong), lambda: lot[wrong])

    def test_only_and_without(self):
        for frame, rows, more in pairs(31, 30):
            lot = Lot(frame, rows)
            for at, variable in enumerate(variables(frame)):
                only, less = lot.only(variable, *more[at]), lot.without(variable, *more[at])
                self.assertEqual(only[variable], tuple(value for value in rows[at] if value in more[at]))
                self.assertEqual(less[variable], tuple(value for value in rows[at] if value not in more[at]))
                for other in variables(frame):
                    if other != variable:
                        self.assertEqual([only[other], less[other]], [lot[other]] * 2)
            self.assertEqual(lot, Lot(frame, rows))

    def test_values_that_have_no_effect(self):
        lot = Lot(TINY, ROWS)
        self.assertEqual(lot.only(("day", "fire"), 5, 1, 1, "x", (0, 0), -1)[("day", "fire")], (1,))
        self.assertEqual(lot.without(("stay", "ann"), (0, 1), 0, "ann", (5, 5)), lot)
        self.assertEqual(lot.only(("day", "fire"))[("day", "fire")], ())
        self.assertEqual(lot.without(("day", "fire")), lot)
        self.assertEqual(lot.only(("stay", "ann"), [1, 1])[("stay", "ann")], ((1, 1),))
        self.assertEqual(lot.without(("stay", "ann"), [1, 1])[("stay", "ann")], ((0, 0),))

    def test_unknown_variables(self):
        lot = Lot(TINY, ROWS)
        for wrong in (("day", "fall"), ("heard", "fire"), ("", "fire")):
            self.assert_fails(UnknownVariable(wrong), lambda: lot.only(wrong, 1))
            self.assert_fails(UnknownVariable(wrong), lambda: lot.without(variable=wrong))


class OperatorsTest(Case):
    def test_both_and_at_least_one(self):
        for frame, rows, more in pairs(47, 40):
            first, second = Lot(frame, rows), Lot(frame, more)
            for at, variable in enumerate(variables(frame)):
                every = values_of(frame, variable)
                self.assertEqual((first & second)[variable], tuple(
                    value for value in every if value in rows[at] and value in more[at]))
                self.assertEqual((first | second)[variable], tuple(
                    value for value in every if value in rows[at] or value in more[at]))
            self.assertEqual((first & second) | second, second)
            self.assertEqual([first, second], [Lot(frame, rows), Lot(frame, more)])
            self.assertEqual(first.part_of(second), first | second == second)
            self.assertTrue((first & second).part_of(other=first))
            self.assertTrue(second.part_of(first | second))
            self.assertTrue(first.part_of(first))
            self.assertTrue(first.part_of(Lot(frame)))

    def test_unlike_frames(self):
        first, second = Lot(PAIR), Lot(TINY)
        for call in (lambda: first & second, lambda: first | second, lambda: first.part_of(second)):
            self.assert_fails(UnlikeFrames(), call)

    def test_pasts_in_lots(self):
        numbers = Numbers(5)
        found = set()
        for frame in irregular_frames(12, 60):
            past = Past(frame, irregular_values(numbers, frame))
            rows = [
                [value for value in values_of(frame, variable) if numbers.below(12) or numbers.below(2)]
                for variable in variables(frame)
            ]
            right = all(value in row for value, row in zip(past.assigned, rows))
            self.assertIs(past in Lot(frame, rows), right)
            self.assertIn(past, Lot(frame))
            self.assertNotIn(past, Lot(frame, [() for _ in rows]))
            found.add(right)
        self.assertEqual(found, {True, False})

    def test_a_past_of_another_frame_is_in_no_lot(self):
        other = Frame(("fire", "fest"), ("ann",), last=1)
        past = Past(other, [0, 0, (0, 0), "ann", (), 2])
        self.assertIn(past, Lot(other))
        self.assertNotIn(past, Lot(TINY))


class CountsTest(Case):
    def test_sizes(self):
        for frame, rows, _ in pairs(3, 20):
            lot = Lot(frame, rows)
            self.assertEqual(lot.size, sum(len(row) for row in rows))
            self.assertIs(lot.is_broken(), [] in rows)
            self.assertIs(lot.is_empty(), not any(rows))
            self.assertEqual(lot.settled(), [name for name, row in zip(variables(frame), rows) if len(row) == 1])

    def test_a_lot_without_values(self):
        lot = Lot(TINY, [()] * 6)
        self.assertEqual([lot.size, lot.is_broken(), lot.is_empty(), lot.settled(), lot.only_past()],
                         [0, True, True, [], None])
        self.assertEqual(lot | Lot(TINY, ROWS), Lot(TINY, ROWS))
        self.assertEqual(lot & Lot(TINY), lot)
        self.assertTrue(lot.part_of(Lot(TINY, ROWS)))
        self.assertFalse(Lot(TINY, ROWS).part_of(lot))
        broken = Lot(TINY, [(), *ROWS[1:]])
        self.assertEqual([broken.is_broken(), broken.is_empty()], [True, False])

    def test_the_size_of_the_greatest_frame(self):
        self.assertEqual(Lot(GREAT).size, 8 * 21 + 4 * 231 + 4 + 4 * 14 + 4 * 22 + 2 * 78 + 2 * 48 + 2 * 6)

    def test_only_past(self):
        numbers = Numbers(9)
        for frame in irregular_frames(17, 20):
            values = irregular_values(numbers, frame)
            lot = Lot(frame, [[value] for value in values])
            self.assertEqual(lot.only_past(), Past(frame, values))
            self.assertEqual(lot.settled(), variables(frame))
            self.assertIsNone((lot | Lot(frame)).only_past())
            self.assertIsNone(lot.without(variables(frame)[0], values[0]).only_past())


class OfTest(Case):
    def test_the_least_lot_with_the_pasts(self):
        numbers = Numbers(11)
        for frame in irregular_frames(19, 20):
            pasts = [Past(frame, irregular_values(numbers, frame)) for _ in range(numbers.below(4))]
            lot = Lot.of(frame, *pasts)
            self.assertEqual(lot, Lot(frame, [[past[name] for past in pasts] for name in variables(frame)]))
            for past in pasts:
                self.assertIn(past, lot)

    def test_without_pasts(self):
        self.assertEqual(Lot.of(TINY), Lot(TINY, [()] * 6))
        self.assertTrue(Lot.of(GREAT).is_empty())

    def test_pasts_of_another_frame(self):
        past = Past(TINY, [0, 0, (0, 0), "ann", (), 2])
        other = Frame(("fire", "fest"), ("ann",), last=1)
        self.assert_fails(UnlikeFrames(), lambda: Lot.of(other, past))
        self.assert_fails(UnlikeFrames(), lambda: Lot.of(TINY, past, Past(other, past.assigned)))


if __name__ == "__main__":
    unittest.main()
