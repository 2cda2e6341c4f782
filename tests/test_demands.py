import unittest
from itertools import product

from fittingpasts.demands import demand, shelf_demands
from fittingpasts.rules import Rule, all_rules
from tests.helpers import BIG, Case, Numbers

DEMANDS = ((), (-1,), (-1, 0), (0, 1), (1,), (-1, 0, 1))


def signs_of_ages(rule, first, second):
    """The signs with which the first roll does not come after the second, for every choice of two ages."""
    found = set()
    for age, other in product((-BIG, 0, 1, 2, 5, BIG), repeat=2):
        if rule((*first, age)) <= rule((*second, other)):
            found.add((age > other) - (age < other))
    return tuple(sorted(found))


class DemandTest(Case):
    def test_example_of_the_interface(self):
        rule = Rule(((0, 1), (1, 1)))
        self.assertEqual(demand(rule, (3,), (3,)), (-1, 0))
        self.assertEqual(demand(rule, (3,), (4,)), (-1, 0, 1))
        self.assertEqual(demand(-rule, (3,), (4,)), ())

    def test_against_every_choice_of_two_ages(self):
        found = set()
        for known in (0, 1, 2):
            rolls = list(product((-1, 0, 2), repeat=known))
            for rule in all_rules(known + 1):
                for first, second in product(rolls, rolls):
                    signs = signs_of_ages(rule, first, second)
                    self.assertEqual(demand(rule, first, second), signs)
                    self.assertEqual(demand(rule, list(first), list(second)), signs)
                    found.add(signs)
        self.assertEqual(sorted(found), sorted(DEMANDS))

    def test_the_age_alone(self):
        self.assertEqual(demand(rule=Rule(((0, 1),)), first=(), second=()), (-1, 0))
        self.assertEqual(demand(Rule(((0, -1),)), (), ()), (0, 1))


class ShelfDemandsTest(Case):
    def test_against_the_pairs(self):
        numbers = Numbers(2)
        for known in (0, 1, 2):
            for rule in all_rules(known + 1):
                for _ in range(8):
                    shelf = [tuple(numbers.below(2) for _ in range(known)) for _ in range(numbers.below(6))]
                    triples = [
                        (i, j, signs_of_ages(rule, shelf[i], shelf[j]))
                        for i in range(len(shelf)) for j in range(i + 1, len(shelf))
                    ]
                    self.assertEqual(
                        shelf_demands(rule, shelf), [triple for triple in triples if triple[2] != (-1, 0, 1)]
                    )

    def test_small_shelves(self):
        rule = Rule(((0, 1), (1, 1)))
        self.assertEqual(shelf_demands(rule, []), [])
        self.assertEqual(shelf_demands(rule, [(1,)]), [])
        self.assertEqual(shelf_demands(rule=rule, shelf=((1,), (1,))), [(0, 1, (-1, 0))])
        self.assertEqual(shelf_demands(rule, [(1,), (2,)]), [])
        self.assertEqual(shelf_demands(rule, [(2,), (1,)]), [(0, 1, ())])
        found = shelf_demands(Rule(((1, -1), (0, 1))), [(2,), (1,), (1,)])
        self.assertEqual(found, [(0, 1, (1,)), (0, 2, (1,)), (1, 2, (0, 1))])

    def test_lists_are_new_and_nothing_is_changed(self):
        shelf = [(1,), (1,)]
        shelf_demands(Rule(((0, 1), (1, 1))), shelf).clear()
        self.assertEqual(len(shelf_demands(Rule(((0, 1), (1, 1))), shelf)), 1)
        self.assertEqual(shelf, [(1,), (1,)])


if __name__ == "__main__":
    unittest.main()
