import unittest
from itertools import combinations, product

from fittingpasts.aging import (
    RuleTable, demand_spans, judge_rules, possible_rules, rule_table, shelf_between,
)
from fittingpasts.errors import NoRule, UnknownName
from fittingpasts.rules import Rule, all_rules
from fittingpasts.spans import Network
from tests.helpers import BIG, Case, Numbers


def completions(network):
    """All completions of a small network, tried one by one."""
    days = range(network.first, network.last + 1)
    rows = [dict(zip(network.points, row)) for row in product(days, repeat=len(network.points))]
    return [row for row in rows if all(row[after] - row[before] >= least for before, after, least in network.spans)]


def is_sorted(rule, shelf, events, days):
    keys = [rule((*roll, days[event])) for roll, event in zip(shelf, events)]
    return keys == sorted(keys)


def samples():
    numbers = Numbers(17)
    rows = []
    for at in range(70):
        points = ("a", "b", "c")[:numbers.between(1, 3)]
        first = numbers.between(-2, 1)
        spans = [
            (numbers.choice(points), numbers.choice(points), numbers.between(-3, 2)) for _ in range(numbers.below(4))
        ]
        network = Network(points, spans, first=first, last=first + numbers.between(0, 3))
        known = at % 3
        many = numbers.below(5)
        shelf = [tuple(numbers.below(2) for _ in range(known)) for _ in range(many)]
        rows.append((network, shelf, tuple(numbers.choice(points) for _ in range(many)), known))
    return rows


SAMPLES = samples()
NETWORK = Network(("a", "b", "c"), [("a", "b", 1), ("b", "c", 1)], last=4)


def walked(network, more, ring):
    """The sum of a ring of the network with more spans added, step by step."""
    steps = [*network.spans, *more]
    total = 0
    for at, (before, after, least) in enumerate(ring):
        assert (before, after, least) in steps or (
            least == network.first - network.last and before in network.points and after in network.points
        )
        assert after == ring[(at + 1) % len(ring)][0]
        total += least
    return total


class DemandSpansTest(Case):
    def test_the_four_spans(self):
        rolls = [(1,), (1,), (0,)]
        self.assertEqual(demand_spans(Rule.read("0+ 1+"), rolls[:2], ("a", "b")), [("a", "b", 0)])
        self.assertEqual(demand_spans(Rule.read("0+ 1-"), rolls[:2], ("a", "b")), [("b", "a", 0)])
        self.assertEqual(demand_spans(Rule.read("1+ 0+"), rolls[1:], ("a", "b")), [("a", "b", 1)])
        self.assertEqual(demand_spans(Rule.read("1- 0+"), rolls[1:], ("a", "b")), [("b", "a", 1)])
        self.assertIsNone(demand_spans(Rule.read("0+ 1+"), rolls, ("a", "b", "c")))
        self.assertEqual(demand_spans(Rule.read("0- 1+"), rolls[1:], ("a", "b")), [])

    def test_their_order_and_their_meaning(self):
        for network, shelf, events, known in SAMPLES:
            for rule in all_rules(known + 1):
                spans = demand_spans(rule, shelf, events)
                for days in product(range(3), repeat=len(network.points)):
                    row = dict(zip(network.points, days))
                    keeps = spans is not None and all(row[b] - row[a] >= least for a, b, least in spans)
                    self.assertEqual(keeps, is_sorted(rule, shelf, events, row))
        self.assertEqual(
            demand_spans(rule=Rule(((0, 1),)), shelf=[(), (), ()], events=["c", "a", "b"]),
            [("c", "a", 0), ("c", "b", 0), ("a", "b", 0)],
        )

    def test_rolls_with_the_same_event(self):
        self.assertEqual(demand_spans(Rule(((0, 1),)), [(), ()], ("a", "a")), [("a", "a", 0)])
        self.assertEqual(demand_spans(Rule.read("1+ 0+"), [(1,), (0,)], ("a", "a")), [("a", "a", 1)])
        self.assertEqual(demand_spans(Rule.read("1- 0+"), [(1,), (0,)], ("a", "a")), [("a", "a", 1)])

    def test_lists_are_new(self):
        shelf, events = [(), ()], ["a", "b"]
        demand_spans(Rule(((0, 1),)), shelf, events).clear()
        self.assertEqual(demand_spans(Rule(((0, 1),)), tuple(shelf), tuple(events)), [("a", "b", 0)])
        self.assertEqual(demand_spans(Rule(((0, 1),)), [], []), [])


class PossibleRulesTest(Case):
    def test_against_all_completions(self):
        found = 0
        for network, shelf, events, known in SAMPLES:
            rows = completions(network)
            right = [rule for rule in all_rules(known + 1) if any(is_sorted(rule, shelf, events, row) for row in rows)]
            self.assertEqual(possible_rules(network, shelf, events, known), right)
            self.assertEqual(possible_rules(network, tuple(shelf), list(events), known), right)
            found += 0 < len(right) < len(all_rules(known + 1))
        self.assertGreater(found, 15)

    def test_small_shelves(self):
        self.assertEqual(possible_rules(NETWORK, [], [], 1), all_rules(2))
        self.assertEqual(possible_rules(network=NETWORK, shelf=[()], events=("c",), known=0), all_rules(1))
        self.assertEqual(possible_rules(NETWORK, [(), ()], ("a", "b"), 0), [Rule(((0, 1),))])
        self.assertEqual(possible_rules(NETWORK, [(), ()], ("b", "b"), 0), all_rules(1))
        self.assertEqual(possible_rules(NETWORK, [(), (), ()], ("b", "a", "c"), 0), [])

    def test_a_network_without_completions(self):
        network = NETWORK + ("c", "a", 0)
        self.assertEqual(possible_rules(network, [()], ("a",), 0), [])
        self.assertEqual(len(rule_table(network, [()], ("a",), 0).rows), 2)

    def test_unknown_names(self):
        self.assert_fails(UnknownName("x"), lambda: possible_rules(NETWORK, [(), (), ()], ("a", "x", "y"), 0))

    def test_nothing_is_changed(self):
        shelf, events = [(), ()], ["a", "b"]
        possible_rules(NETWORK, shelf, events, 0).clear()
        self.assertEqual(len(possible_rules(NETWORK, shelf, events, 0)), 1)
        self.assertEqual([shelf, events], [[(), ()], ["a", "b"]])
        self.assertEqual(NETWORK.spans, (("a", "b", 1), ("b", "c", 1)))


class RuleTableTest(Case):
    def test_example_of_the_interface(self):
        network = Network(("a", "b"), [("a", "b", 1)], last=4)
        rows = rule_table(network, [(), ()], ("a", "b"), 0).rows
        self.assertEqual([row[0] for row in rows], [((0, -1),)])
        self.assertEqual(shelf_between(network, [(), ()], ("a", "b"), 0, "b", "a"), (-4, -1))

    def test_each_row(self):
        pairs = rings = 0
        for network, shelf, events, known in SAMPLES:
            table = rule_table(network, shelf, events, known)
            right = possible_rules(network, shelf, events, known)
            shut = [rule for rule in all_rules(known + 1) if rule not in right]
            self.assertEqual([row[0] for row in table.rows], [rule.terms for rule in shut])
            for rule, (_, pair, ring) in zip(shut, table.rows):
                wrong = [
                    (i, j) for i, j in combinations(range(len(shelf)), 2)
                    if not any(rule((*shelf[i], s)) <= rule((*shelf[j], 0)) for s in (-1, 0, 1))
                ]
                if wrong:
                    self.assertEqual((pair, ring), (wrong[0], ()))
                    pairs += 1
                else:
                    self.assertEqual(pair, ())
                    self.assertGreater(walked(network, demand_spans(rule, shelf, events), ring), 0)
                    rings += 1
            self.assertTrue(judge_rules(network, shelf, events, known, table))
        self.assertGreater(min(pairs, rings), 30)

    def test_rows_of_both_kinds(self):
        rows = rule_table(NETWORK, [(1,), (1,), (0,)], ("b", "a", "c"), 1).rows
        self.assertEqual([(str(Rule(terms)), pair) for terms, pair, _ in rows], [
            ("0+ 1+", (0, 2)), ("0+ 1-", (0, 2)), ("0- 1+", ()), ("1+ 0+", ()), ("1+ 0-", ()),
            ("1- 0+", ()), ("1- 0-", ()),
        ])

    def test_tuples_and_copies(self):
        ring = [["a", "b", 1]]
        rows = [[[[0, 1]], [0, 1], []], (((0, -1),), (), ring)]
        table = RuleTable(rows)
        rows.clear()
        ring.clear()
        self.assertEqual(table.rows, ((((0, 1),), (0, 1), ()), (((0, -1),), (), (("a", "b", 1),))))
        self.assertEqual(RuleTable(rows=[]).rows, ())

    def test_unknown_names(self):
        self.assert_fails(UnknownName("x"), lambda: rule_table(NETWORK, [(), ()], ("x", "y"), 0))


class JudgeRulesTest(Case):
    SHELF = [(1,), (1,), (0,)]
    EVENTS = ("b", "a", "c")

    def judge(self, rows):
        return judge_rules(NETWORK, self.SHELF, self.EVENTS, 1, RuleTable(rows))

    def rows(self):
        return rule_table(NETWORK, self.SHELF, self.EVENTS, 1).rows

    def test_the_table_told(self):
        self.assertTrue(self.judge(self.rows()))
        table = RuleTable(self.rows())
        self.assertTrue(judge_rules(network=NETWORK, shelf=self.SHELF, events=list(self.EVENTS), known=1, table=table))

    def test_rows_left_out_doubled_or_out_of_order(self):
        rows = self.rows()
        for at in range(len(rows)):
            self.assertFalse(self.judge(rows[:at] + rows[at + 1:]))
            self.assertFalse(self.judge((*rows[:at], rows[at], *rows[at:])))
            self.assertFalse(self.judge((*rows, rows[at])))
        self.assertFalse(self.judge(rows[::-1]))
        self.assertFalse(self.judge(()))

    def test_rows_for_what_is_no_full_rule(self):
        rows = self.rows()
        for terms in ((), ((0, 1),), ((0, 1), (1, 1), (2, 1)), ((0, 1), (0, 1)), ((0, 2), (1, 1)), ((-1, 1), (1, 1))):
            for at in range(len(rows) + 1):
                self.assertFalse(self.judge((*rows[:at], (terms, (0, 2), rows[2][2]), *rows[at:])), terms)
        # This rule is possible.
        self.assertFalse(self.judge((*rows[:3], (((0, -1), (1, -1)), (0, 2), rows[2][2]), *rows[3:])))

    def test_pairs(self):
        rows = self.rows()
        for i, j in product(range(-3, 5), repeat=2):
            row = (rows[0][0], (i, j), ())
            self.assertEqual(self.judge((row, *rows[1:])), (i, j) in ((0, 2), (1, 2)), row)
        self.assertFalse(self.judge(((rows[0][0], (), ()), *rows[1:])))
        # A demand that can be met is no reason.
        self.assertFalse(self.judge((*rows[:2], (rows[2][0], (0, 1), ()), *rows[3:])))

    def test_rings(self):
        rows = self.rows()
        terms = rows[2][0]
        ring = (("a", "b", 1), ("b", "a", 0))
        self.assertTrue(self.judge((*rows[:2], (terms, (), ring), *rows[3:])))
        self.assertTrue(self.judge((*rows[:2], (terms, (), ring[::-1]), *rows[3:])))
        for wrong in (
            (), ring[:1], ring[1:], (("a", "b", 1), ("b", "a", -4)), (("a", "b", 1), ("b", "c", 1), ("c", "a", -4)),
            (("b", "a", 0), ("b", "a", 0)), (("a", "b", 2), ("b", "a", 0)), (("a", "x", 1), ("x", "a", 1)),
            ring + ring[:1],
        ):
            self.assertFalse(self.judge((*rows[:2], (terms, (), wrong), *rows[3:])), wrong)
        # The ring of one rule is none of another one, whose demands are others.
        self.assertFalse(self.judge((*rows[:6], (rows[6][0], (), ring))))

    def test_one_of_the_two_suffices(self):
        rows = self.rows()
        ring = rows[2][2]
        self.assertTrue(self.judge(((rows[0][0], (0, 2), (("x", "y", 9),)), *rows[1:])))
        self.assertTrue(self.judge(((rows[0][0], (1, 2), ring), *rows[1:])))
        self.assertTrue(self.judge((*rows[:2], (rows[2][0], (9, -9), ring), *rows[3:])))
        self.assertTrue(self.judge((*rows[:2], (rows[2][0], (0, 2), ring), *rows[3:])))
        # Where a demand is empty there are no demand spans, and no ring shuts.
        self.assertFalse(self.judge(((rows[0][0], (), ring), *rows[1:])))
        self.assertFalse(self.judge(((rows[0][0], (0, 1), (("c", "a", BIG), ("a", "c", BIG))), *rows[1:])))

    def test_rings_of_the_network_itself(self):
        network = Network(("a", "b"), [("a", "b", 3)], last=2)
        ring = (("a", "b", 3), ("b", "a", -2))
        rows = [(((0, 1),), (), ring), (((0, -1),), (), ring)]
        self.assertTrue(judge_rules(network, [(), ()], ("a", "b"), 0, RuleTable(rows)))
        self.assertFalse(judge_rules(network, [(), ()], ("a", "b"), 0, RuleTable(rows[:1])))

    def test_unknown_names(self):
        self.assert_fails(UnknownName("x"), lambda: judge_rules(NETWORK, [(), ()], ("x", "a"), 0, RuleTable(())))


class UnknownNamesTest(Case):
    def test_the_first_of_the_events_also_where_there_are_no_spans(self):
        for shelf, events, name in (
            ([()], ("x",), "x"), ([(), ()], ("x", "y"), "x"), ([(), ()], ("y", "x"), "y"), ([(), ()], ("a", "x"), "x"),
        ):
            for call in (
                lambda: possible_rules(NETWORK, shelf, events, 0), lambda: rule_table(NETWORK, shelf, events, 0),
                lambda: judge_rules(NETWORK, shelf, events, 0, RuleTable(())),
                lambda: shelf_between(NETWORK, shelf, events, 0, "a", "b"),
            ):
                self.assert_fails(UnknownName(name), call)


class ShelfBetweenTest(Case):
    def test_against_all_completions(self):
        found = 0
        for network, shelf, events, known in SAMPLES:
            rows = [
                row for row in completions(network)
                if any(is_sorted(rule, shelf, events, row) for rule in all_rules(known + 1))
            ]
            for before, after in product(network.points, repeat=2):
                if not rows:
                    error = self.caught(NoRule, lambda: shelf_between(network, shelf, events, known, before, after))
                    told = rule_table(network, shelf, events, known)
                    self.assertEqual(error.table.rows, told.rows)
                    self.assertTrue(judge_rules(network, shelf, events, known, error.table))
                    continue
                days = [row[after] - row[before] for row in rows]
                found += 1
                self.assertEqual(
                    shelf_between(network, shelf, events, known, before, after), (min(days), max(days))
                )
        self.assertGreater(found, 100)

    def test_errors_in_their_order(self):
        never = NETWORK + ("c", "a", 0)
        for events, before, after, name in (
            (("x", "y"), "z", "z", "x"), (("a", "y"), "z", "w", "y"), (("a", "b"), "z", "w", "z"),
            (("a", "b"), "a", "w", "w"),
        ):
            self.assert_fails(UnknownName(name), lambda: shelf_between(never, [(), ()], events, 0, before, after))
        self.caught(NoRule, lambda: shelf_between(never, [(), ()], ("a", "b"), 0, "a", "b"))

    def test_arguments_by_name(self):
        self.assertEqual(
            shelf_between(network=NETWORK, shelf=[], events=(), known=2, before="c", after="a"), (-4, -2)
        )


if __name__ == "__main__":
    unittest.main()
