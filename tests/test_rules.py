import unittest
from itertools import permutations, product

from fittingpasts.errors import InvalidRule, InvalidText
from fittingpasts.rules import Rule, all_rules
from tests.helpers import BIG, Case

RULES = [Rule(terms) for many in range(4) for marks in permutations(range(4), many)
         for terms in product(*[[(mark, 1), (mark, -1)] for mark in marks])]


def ranks(terms):
    return tuple(2 * mark if direction == 1 else 2 * mark + 1 for mark, direction in terms)


class RuleTest(Case):
    def test_example_of_the_interface(self):
        rule = Rule(((1, 1), (0, -1)))
        self.assertEqual(rule((5, 2)), (2, -5))
        self.assertEqual(rule.compare((5, 2), (4, 2)), -1)
        self.assertEqual([str(-rule), str(Rule.plain(0) + rule)], ["1- 0+", "0+ 1+"])

    def test_terms_are_a_tuple_of_tuples_and_a_copy(self):
        terms = [(3, -1), (0, 1)]
        rule = Rule(terms)
        terms.clear()
        self.assertEqual(rule.terms, ((3, -1), (0, 1)))
        self.assertEqual(Rule(terms=()).terms, ())
        self.assertEqual(Rule([(0, 1)]), Rule(((0, 1),)))

    def test_wrong_terms(self):
        for wrong in (
            (-1, 1), (4, 1), (BIG, 1), (0, 0), (0, 2), (0, -2), (0, BIG), (), (2,), (2, 1, 1), (2, 1, 0),
            (1, 1), (1, -1), (0, 1), (3, -1),
        ):
            self.assert_fails(InvalidRule(3), lambda: Rule(((1, 1), (0, -1), (3, 1), wrong, wrong)))
            self.assert_fails(InvalidRule(3), lambda: Rule([(1, -1), (0, 1), (3, -1), wrong, (2, 1)]))
        for wrong in ((-1, 1), (4, -1), (0, 0), (1,), (0, 1, 1), ()):
            self.assert_fails(InvalidRule(0), lambda: Rule((wrong, (2, 1), (2, 1))))

    def test_equality(self):
        for rule, other in product(RULES[:40], RULES[:40]):
            self.assertEqual(rule == other, rule.terms == other.terms)
        self.assertFalse(Rule(()) == ())
        self.assertFalse(Rule(((0, 1),)) == ((0, 1),))

    def test_keys_and_comparing(self):
        rolls = list(product((-BIG, 0, 3), repeat=4))[::5]
        for rule in RULES[::3]:
            for roll in rolls:
                key = tuple(roll[mark] if direction == 1 else -roll[mark] for mark, direction in rule.terms)
                self.assertEqual(rule(roll), key)
            for first, second in product(rolls, rolls):
                compared = (rule(first) > rule(second)) - (rule(first) < rule(second))
                self.assertEqual(rule.compare(first, second), compared)

    def test_rolls_may_be_lists_with_more_marks(self):
        rule = Rule(((2, -1),))
        self.assertEqual(rule.compare([1, 2, 3], (9, 9, 4)), 1)
        self.assertEqual(rule.compare(first=[1, 2, 4], second=[9, 9, 4]), 0)
        self.assertEqual(rule([7, 8, 9, 10]), (-9,))
        self.assertEqual([Rule(())(()), Rule(()).compare((1,), (2,))], [(), 0])

    def test_directions_and_marks(self):
        rule = Rule(((2, -1), (0, 1)))
        self.assertEqual([rule.direction_of(mark) for mark in (-1, 0, 1, 2, 3, BIG)], [0, 1, 0, -1, 0, 0])
        self.assertEqual(rule.direction_of(mark=2), -1)
        self.assertEqual([rule.mark_order(), Rule(()).mark_order()], [(2, 0), ()])

    def test_opposite(self):
        for rule in RULES:
            self.assertEqual((-rule).terms, tuple((mark, -direction) for mark, direction in rule.terms))
            self.assertEqual(-(-rule), rule)
        rule = Rule(((0, 1),))
        self.assertEqual([-rule, rule], [Rule(((0, -1),)), Rule(((0, 1),))])

    def test_sums(self):
        for first, second in product(RULES[::4], RULES[::5]):
            before = (first.terms, second.terms)
            more = tuple(term for term in second.terms if term[0] not in first.mark_order())
            self.assertEqual((first + second).terms, first.terms + more)
            self.assertEqual((first.terms, second.terms), before)
        self.assertEqual(Rule(((1, 1),)) + Rule(((1, -1),)), Rule(((1, 1),)))
        self.assertEqual(str(Rule.read("1- 0+") + Rule.read("3- 1+ 2+")), "1- 0+ 3- 2+")

    def test_plain(self):
        self.assertEqual(Rule.plain(), Rule(()))
        self.assertEqual(Rule.plain(3, 0, 1).terms, ((3, 1), (0, 1), (1, 1)))
        for marks, at in (((0, 0), 1), ((1, 2, 1, 9), 2), ((-1,), 0), ((0, 4), 1), ((3, 2, 1, 0, 3), 4)):
            self.assert_fails(InvalidRule(at), lambda: Rule.plain(*marks))
        self.assertEqual(Rule(((0, 1),)).plain(2), Rule(((2, 1),)))


class TextTest(Case):
    def test_texts(self):
        self.assertEqual(str(Rule(((1, 1), (0, -1)))), "1+ 0-")
        self.assertEqual(str(Rule(())), "")
        self.assertEqual(str(Rule(((3, -1),))), "3-")

    def test_written_and_read_back(self):
        for rule in RULES:
            self.assertEqual(Rule.read(str(rule)), rule)
        self.assertEqual(Rule.read(text="1+ 0-").terms, ((1, 1), (0, -1)))
        self.assertEqual(Rule.read("").terms, ())

    def test_texts_that_miss_the_form(self):
        for text in (
            " ", "1", "+", "1+ ", " 1+", "1+  0-", "1+,0-", "1+0-", "1 + 0-", "+1", "1* 0-", "4+", "1+ 4-", "a+", "11+",
            "1++", "-1+", "1+\n", "\n1+", "1+\n0-", "1+\t0-", "1+ 0", "1+ -", "1_", "1=", "01+", "0+ 1- 2", "\n",
        ):
            self.assert_fails(InvalidText(text), lambda: Rule.read(text))
        # The form is looked at first, also behind a mark that occurred before.
        self.assert_fails(InvalidText("1+ 1+ 4+"), lambda: Rule.read("1+ 1+ 4+"))

    def test_a_mark_twice(self):
        for text, at in (("1+ 1-", 1), ("0+ 2- 1+ 2-", 3), ("3+ 3+", 1), ("0+ 1+ 0+ 1+", 2)):
            self.assert_fails(InvalidRule(at), lambda: Rule.read(text))


class AllRulesTest(Case):
    def test_small_counts(self):
        self.assertEqual([rule.terms for rule in all_rules(0)], [()])
        self.assertEqual([str(rule) for rule in all_rules(1)], ["0+", "0-"])
        self.assertEqual(
            [str(rule) for rule in all_rules(count=2)],
            ["0+ 1+", "0+ 1-", "0- 1+", "0- 1-", "1+ 0+", "1+ 0-", "1- 0+", "1- 0-"],
        )

    def test_all_of_them_ascending(self):
        for count in range(4):
            full = [rule.terms for rule in RULES if sorted(rule.mark_order()) == list(range(count))]
            self.assertEqual([rule.terms for rule in all_rules(count)], sorted(full, key=ranks))
        self.assertEqual([len(all_rules(count)) for count in range(4)], [1, 2, 8, 48])
        self.assertTrue(all(isinstance(rule, Rule) for rule in all_rules(2)))

    def test_lists_are_new(self):
        all_rules(1).clear()
        self.assertEqual(len(all_rules(1)), 2)


if __name__ == "__main__":
    unittest.main()
