import unittest
from itertools import product

from fittingpasts.errors import NotSorted
from fittingpasts.rules import Rule, all_rules
from fittingpasts.shelving import (
    ShelfCut, fitting_rules, judge_cut, shelf_cut, slots, strays, word_over, wrong_pairs,
)
from tests.helpers import BIG, Case, Numbers

RULE = Rule(((1, 1), (0, -1)))


def shelves(seed, count, many):
    numbers = Numbers(seed)
    rows = []
    for _ in range(many):
        values = numbers.choice(((0, 1), (0, 1, 2), (-BIG, 4)))
        rows.append([tuple(numbers.choice(values) for _ in range(count)) for _ in range(numbers.below(6))])
    return rows


def rules_for(count):
    """Rules for rolls with so many marks, also those that do not have all of them."""
    found = []
    for rule in all_rules(count):
        for many in range(count + 1):
            if Rule(rule.terms[:many]) not in found:
                found.append(Rule(rule.terms[:many]))
    return found


def is_sorted(rule, shelf):
    keys = [rule(roll) for roll in shelf]
    return keys == sorted(keys)


CASES = [(rule, shelf) for count in (1, 2, 3) for shelf in shelves(count, count, 25) for rule in rules_for(count)]


class WrongPairsTest(Case):
    def test_against_the_keys(self):
        for rule, shelf in CASES:
            wrong = [
                (i, j) for i in range(len(shelf)) for j in range(i + 1, len(shelf)) if rule(shelf[i]) > rule(shelf[j])
            ]
            self.assertEqual(wrong_pairs(rule, shelf), wrong)
            self.assertEqual(wrong_pairs(rule, tuple(shelf)), wrong)
            self.assertEqual(wrong == [], is_sorted(rule, shelf))

    def test_small_shelves(self):
        self.assertEqual(wrong_pairs(RULE, ()), [])
        self.assertEqual(wrong_pairs(RULE, [(1, 2)]), [])
        self.assertEqual(wrong_pairs(rule=RULE, shelf=[(1, 2), (1, 2)]), [])
        self.assertEqual(wrong_pairs(RULE, [(1, 2), (3, 2), (0, 0)]), [(0, 1), (0, 2), (1, 2)])
        self.assertEqual(wrong_pairs(Rule(()), [(3,), (2,), (1,)]), [])
        self.assertEqual(wrong_pairs(Rule(((1, 1),)), [[9, 1], [0, 1], [5, 0]]), [(0, 2), (1, 2)])


class StraysTest(Case):
    def test_against_leaving_each_roll_out(self):
        found = 0
        for rule, shelf in CASES:
            wrong = wrong_pairs(rule, shelf)
            stray = [
                k for k in range(len(shelf))
                if is_sorted(rule, shelf[:k] + shelf[k + 1:]) and any(k in pair for pair in wrong)
            ]
            self.assertEqual(strays(rule, shelf), stray)
            found += len(stray) > 0
        self.assertGreater(found, 200)

    def test_small_shelves(self):
        self.assertEqual(strays(RULE, []), [])
        self.assertEqual(strays(Rule(((0, 1),)), [(1,), (2,)]), [])
        self.assertEqual(strays(rule=Rule(((0, 1),)), shelf=((2,), (1,))), [0, 1])
        self.assertEqual(strays(Rule(((0, 1),)), [(5,), (1,), (2,), (3,)]), [0])
        self.assertEqual(strays(Rule(((0, 1),)), [(1,), (3,), (2,), (4,)]), [1, 2])
        self.assertEqual(strays(Rule(((0, 1),)), [(2,), (1,), (4,), (3,)]), [])
        self.assertEqual(strays(Rule(()), [(2,), (1,)]), [])


class SlotsTest(Case):
    def test_against_putting_the_roll_in_at_each_place(self):
        numbers = Numbers(3)
        for rule, shelf in CASES:
            wrong = wrong_pairs(rule, shelf)
            roll = tuple(numbers.between(-1, 3) for _ in range(3))
            if wrong:
                self.assert_fails(NotSorted(*wrong[0]), lambda: slots(rule, shelf, roll))
                continue
            right = [k for k in range(len(shelf) + 1) if is_sorted(rule, shelf[:k] + [roll] + shelf[k:])]
            self.assertEqual(slots(rule, shelf, roll), right)

    def test_sorted_shelves_in_every_order(self):
        for rule in rules_for(2):
            for rolls in product(product((0, 1), (0, 1)), repeat=3):
                shelf = sorted(rolls, key=rule)
                for roll in product((0, 1), (0, 1)):
                    right = [k for k in range(4) if is_sorted(rule, shelf[:k] + [roll] + shelf[k:])]
                    self.assertEqual(slots(rule, tuple(shelf), roll), right)

    def test_small_shelves(self):
        self.assertEqual(slots(rule=RULE, shelf=[], roll=(1, 2)), [0])
        self.assertEqual(slots(Rule(((0, 1),)), [(2,), (2,), (4,)], (2,)), [0, 1, 2])
        self.assertEqual(slots(Rule(()), [(2,), (1,)], (3,)), [0, 1, 2])
        self.assert_fails(NotSorted(0, 2), lambda: slots(Rule(((0, 1),)), [(2,), (2,), (1,), (0,)], (3,)))
        self.assert_fails(NotSorted(1, 2), lambda: slots(Rule(((0, -1),)), [(2,), (1,), (2,), (1,)], (3,)))

    def test_nothing_is_changed(self):
        shelf = [(1, 1), (2, 2)]
        slots(Rule(((0, 1),)), shelf, (1, 5)).append(9)
        self.assertEqual(shelf, [(1, 1), (2, 2)])
        self.assertEqual(slots(Rule(((0, 1),)), shelf, (1, 5)), [0, 1])


class FittingRulesTest(Case):
    def test_against_all_rules(self):
        for count in (0, 1, 2, 3):
            for shelf in shelves(count + 9, count, 30):
                right = [rule.terms for rule in all_rules(count) if is_sorted(rule, shelf)]
                self.assertEqual([rule.terms for rule in fitting_rules(shelf, count)], right)

    def test_small_shelves(self):
        self.assertEqual(fitting_rules(shelf=(), count=2), all_rules(2))
        self.assertEqual(fitting_rules([(1, 2)], 2), all_rules(2))
        found = fitting_rules([(1, 5), (2, 3)], 2)
        self.assertEqual([str(rule) for rule in found], ["0+ 1+", "0+ 1-", "1- 0+", "1- 0-"])
        self.assertEqual(fitting_rules([(1,), (2,), (1,)], 1), [])
        self.assertEqual(fitting_rules([(), ()], 0), [Rule(())])


class WordOverTest(Case):
    def test_the_four_words(self):
        up, down = Rule(((0, 1),)), Rule(((0, -1),))
        self.assertEqual(word_over([], (1,), (2,)), "void")
        self.assertEqual(word_over([up], (1,), (2,)), "sure")
        self.assertEqual(word_over((up, up), (1,), (2,)), "sure")
        self.assertEqual(word_over([down], (1,), (2,)), "never")
        self.assertEqual(word_over([down, down, up], (1,), (2,)), "open")
        self.assertEqual(word_over([up, down], (1,), (2,)), "open")
        self.assertEqual(word_over(rules=[up, down], roll=(1,), other=(1,)), "never")
        self.assertEqual(word_over([up, Rule(())], (1,), (2,)), "open")
        self.assertEqual(word_over([Rule(())], (1,), (2,)), "never")
        self.assertEqual(word_over([Rule(((1, 1), (0, 1))), up], (1, 3), (2, 3)), "sure")

    def test_against_the_keys(self):
        rules = rules_for(2)
        numbers = Numbers(8)
        for roll, other in product(product((0, 1), (0, 1)), repeat=2):
            for _ in range(20):
                some = [numbers.choice(rules) for _ in range(numbers.between(1, 3))]
                many = sum(rule(roll) < rule(other) for rule in some)
                word = "sure" if many == len(some) else "open" if many else "never"
                self.assertEqual(word_over(some, roll, other), word)


def rank(terms):
    return tuple(2 * mark + (direction == -1) for mark, direction in terms)


def is_right(shelf, count, prefix, first, second):
    """Point 58 word by word."""
    marks = [mark for mark, _ in prefix]
    if not prefix or len(set(marks)) < len(marks) or not all(0 <= mark < count for mark in marks):
        return False
    if not all(direction in (1, -1) for _, direction in prefix) or not 0 <= first < second < len(shelf):
        return False
    if any(shelf[first][mark] != shelf[second][mark] for mark in marks[:-1]):
        return False
    mark, direction = prefix[-1]
    return direction * shelf[first][mark] > direction * shelf[second][mark]


def told_rows(shelf, count):
    """The rows of the cut by their definition, from all prefixes."""
    pairs = [(i, j) for i in range(len(shelf)) for j in range(i + 1, len(shelf))]
    prefixes = {rule.terms[:many] for rule in all_rules(count) for many in range(1, count + 1)}
    shut = {
        prefix: [pair for pair in pairs if is_right(shelf, count, prefix, *pair)] for prefix in prefixes
    }
    rows = []
    for prefix in sorted(prefixes, key=rank):
        if shut[prefix] and not any(shut[prefix[:many]] for many in range(1, len(prefix))):
            rows.append((prefix, *shut[prefix][0]))
    return tuple(rows)


CUTS = [(shelf, count) for count in (0, 1, 2, 3) for shelf in shelves(count + 20, count, 40)]


class ShelfCutTest(Case):
    def test_example_of_the_interface(self):
        self.assertEqual(shelf_cut([(1, 5), (2, 3)], 2).rows, ((((0, -1),), 0, 1), (((1, 1),), 0, 1)))

    def test_against_the_definition(self):
        long = 0
        for shelf, count in CUTS:
            cut = shelf_cut(shelf, count)
            self.assertIsInstance(cut, ShelfCut)
            self.assertEqual(cut.rows, told_rows(shelf, count))
            self.assertTrue(judge_cut(shelf, count, cut))
            long += any(len(row[0]) == 3 for row in cut.rows)
        self.assertGreater(long, 5)

    def test_small_shelves(self):
        for shelf in ([], [(1, 2)], [(1, 2), (1, 2)]):
            self.assertEqual(shelf_cut(shelf=shelf, count=2).rows, ())
            self.assertTrue(judge_cut(shelf=shelf, count=2, cut=ShelfCut(rows=())))

    def test_rows_are_tuples_and_copies(self):
        prefix = [[0, -1]]
        rows = [[prefix, 0, 1], (((1, 1),), 0, 1)]
        cut = ShelfCut(rows)
        rows.clear()
        prefix.clear()
        self.assertEqual(cut.rows, ((((0, -1),), 0, 1), (((1, 1),), 0, 1)))
        self.assertTrue(judge_cut([(1, 5), (2, 3)], 2, cut))


class JudgeCutTest(Case):
    SHELF = [(1, 5), (1, 3), (2, 4), (0, 4)]

    def judge(self, rows):
        return judge_cut(self.SHELF, 2, ShelfCut(rows))

    def test_other_right_pairs(self):
        told = shelf_cut(self.SHELF, 2).rows
        self.assertEqual(told, ((((0, 1),), 0, 3), (((0, -1),), 0, 2), (((1, 1),), 0, 1), (((1, -1),), 1, 2)))
        right = (((0, 3), (1, 3), (2, 3)), ((0, 2), (1, 2)), ((0, 1), (0, 2), (0, 3)), ((1, 2), (1, 3)))
        for at, pairs in enumerate(right):
            for i, j in product(range(-1, 5), range(-1, 5)):
                row = (told[at][0], i, j)
                self.assertEqual(self.judge((*told[:at], row, *told[at + 1:])), (i, j) in pairs, row)

    def test_rows_more_and_less(self):
        told = shelf_cut(self.SHELF, 2).rows
        self.assertTrue(self.judge(told[::-1]))
        self.assertTrue(self.judge(told + told))
        self.assertFalse(self.judge((*told, (((0, 1), (1, -1)), 0, 1))))
        self.assertTrue(self.judge((*told, (((0, 1), (1, 1)), 0, 1))))
        for at in range(4):
            self.assertFalse(self.judge(told[:at] + told[at + 1:]))
        self.assertFalse(self.judge(()))

    def test_longer_prefixes_may_stand_for_a_shorter_one(self):
        shelf = [(1, 1), (1, 0)]
        self.assertEqual(
            shelf_cut(shelf, 2).rows, ((((0, 1), (1, 1)), 0, 1), (((0, -1), (1, 1)), 0, 1), (((1, 1),), 0, 1))
        )
        both = ((((0, 1), (1, 1)), 0, 1), (((0, -1), (1, 1)), 0, 1))
        self.assertTrue(judge_cut(shelf, 2, ShelfCut((*both, (((1, 1),), 0, 1)))))
        self.assertFalse(judge_cut(shelf, 2, ShelfCut(both)))
        # Behind the first mark the rolls differ, so that nothing with a second term is right.
        self.assertFalse(judge_cut(shelf, 2, ShelfCut((*both, (((1, 1), (0, 1)), 0, 1), (((1, 1), (0, -1)), 0, 1)))))

    def test_rules_that_sort_need_no_row(self):
        shelf = [(1,), (2,)]
        self.assertTrue(judge_cut(shelf, 1, ShelfCut(((((0, -1),), 0, 1),))))
        self.assertFalse(judge_cut(shelf, 1, ShelfCut(((((0, 1),), 0, 1),))))
        self.assertFalse(judge_cut(shelf, 1, ShelfCut(())))

    def test_spoilt_rows(self):
        told = shelf_cut(self.SHELF, 2).rows
        for row in (
            ((), 0, 1), (((0, 1), (0, 1)), 0, 1), (((0, 1), (0, -1)), 0, 1), (((0, 1), (0, 1), (1, 1)), 0, 1),
            (((0, 1), (0, -1), (1, 1)), 0, 1), (((2, 1),), 0, 3), (((-1, 1),), 0, 1),
            (((4, 1),), 0, 1), (((BIG, 1),), 0, 1), (((0, 0),), 0, 3), (((0, 2),), 0, 3), (((0, -2),), 0, 2),
            (((0, 1),), 3, 0), (((0, 1),), 0, 0), (((0, 1),), -4, 3), (((0, 1),), -4, -1), (((0, 1),), 0, 4),
            (((0, 1),), 0, BIG), (((0, 1),), 0, 1), (((0, 1),), 0, 2), (((0, 1), (1, 1)), 0, 2),
            (((0, 1), (1, 1)), 0, 3), (((1, -1), (0, -1)), 2, 3), (((0, 1), (5, 1)), 0, 3), (((0, 3), (1, 1)), 0, 1),
        ):
            self.assertFalse(self.judge((*told, row)), row)
            self.assertFalse(self.judge((row, *told)), row)
        self.assertTrue(self.judge((*told, (((1, -1), (0, 1)), 2, 3))))

    def test_rolls_with_more_marks_than_count(self):
        shelf = [(1, 1), (1, 0)]
        self.assertTrue(judge_cut(shelf, 1, ShelfCut(())))
        self.assertFalse(judge_cut(shelf, 1, ShelfCut(((((1, 1),), 0, 1),))))

    def test_judged_against_the_words_for_irregular_cuts(self):
        numbers = Numbers(4)
        right = 0
        for shelf, count in CUTS:
            if count == 0:
                continue
            for _ in range(10):
                rows = [list(row) for row in shelf_cut(shelf, count).rows if numbers.below(12)]
                for row in rows:
                    if numbers.below(5) == 0:
                        row[numbers.between(1, 2)] = numbers.between(-1, 5)
                    if numbers.below(9) == 0:
                        row[0] = row[0][:-1] + ((numbers.between(-1, 3), numbers.choice((1, -1))),)
                means = all(is_right(shelf, count, *row) for row in rows) and all(
                    is_sorted(rule, shelf) or any(rule.terms[:len(row[0])] == row[0] for row in rows)
                    for rule in all_rules(count)
                )
                self.assertIs(judge_cut(shelf, count, ShelfCut(rows)), means)
                right += means and len(rows) > 0
        self.assertGreater(right, 100)


if __name__ == "__main__":
    unittest.main()
