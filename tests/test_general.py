"""What holds for all functions: arguments stay as they are, lists are taken like tuples, returned lists are new."""

import unittest

from fittingpasts.aging import (
    RuleTable, demand_spans, judge_rules, possible_rules, rule_table, shelf_between,
)
from fittingpasts.borders import border, gatekeepers, judge_border
from fittingpasts.bridging import bridges, lean_trail
from fittingpasts.closing import close, judge_trail, trail
from fittingpasts.conflicts import best_question, conflict, least_dropped
from fittingpasts.deadlines import carriers, deadlines
from fittingpasts.demands import demand, shelf_demands
from fittingpasts.frames import Frame
from fittingpasts.lots import Lot
from fittingpasts.measures import days_between, sure_heard, sure_order, sure_together
from fittingpasts.past import Past
from fittingpasts.refuting import Refutation, judge_refutation, refute
from fittingpasts.rules import Rule, all_rules
from fittingpasts.search import count_pasts, first_past, pasts, true_lot
from fittingpasts.shelving import (
    ShelfCut, fitting_rules, judge_cut, shelf_cut, slots, strays, word_over, wrong_pairs,
)
from fittingpasts.sources import beginners, heard_days, trace
from fittingpasts.spans import Network
from fittingpasts.statements import Apart, OnDay, Statement
from fittingpasts.ties import all_ties, fits, is_supported, scope_of
from fittingpasts.verdicts import Verdict, judge_verdict, survey, verdict
from fittingpasts.timetables import Timetable
from fittingpasts.ways import earliest_way, judge_way

TABLE = Timetable(("ann", "ben", "cid"), [((1, 3), ("ann", "ben")), ((2,), ("ben", "cid"))])
NETWORK = Network(("a", "b"), [("a", "b", 1)], last=4)
RULE = Rule(((0, 1), (1, 1)))
SOURCES = (("ann",), ("ann", 0), ("ben", 1))
ROW = (((0, -1),), (), (("a", "b", 1), ("b", "a", 0)))
HOUSE = Frame(("a", "b"), last=3)
PAPERS = (Apart("a", "b", 2), OnDay("a", 0, 1) | OnDay("b", 0, 1))
BAD = (Apart("a", "b", 2), Apart("b", "a", 2))
STRIKES = trail(HOUSE, PAPERS)
DAYS = ((0, 1), (0, 2, 3))
REFUTED = refute(HOUSE, BAD)
CLAIM = Apart("a", "b", 3)
OPEN = verdict(HOUSE, PAPERS, CLAIM)
CALLS = [
    (lambda silent: border(TABLE, "ann", "cid", silent=silent), [("ben", "ann")]),
    (lambda silent: judge_border(TABLE, "ann", "cid", (("ann", 0), ("ben", 1)), silent=silent), [("ben",)]),
    (lambda sources: heard_days(TABLE, sources), [SOURCES]),
    (lambda sources: trace(TABLE, sources, "cid"), [SOURCES]),
    (beginners, [SOURCES]),
    (lambda: earliest_way(TABLE, "ann", "cid"), []),
    (lambda: judge_way(TABLE, "ann", "ben", ((1, 0, "ann", "ben"),)), []),
    (lambda: gatekeepers(TABLE, "ann", "cid"), []),
    (lambda: deadlines(TABLE, "cid", 3), []),
    (lambda: carriers(TABLE, "ann", "cid", 3), []),
    (lambda terms: Rule(terms).terms, [((0, 1), (1, -1))]),
    (lambda: [rule.terms for rule in all_rules(2)], []),
    (RULE.compare, [(1, 2), (1, 3)]),
    (RULE, [(1, 2)]),
    (lambda shelf: wrong_pairs(RULE, shelf), [((2, 1), (1, 1), (0, 0))]),
    (lambda shelf: strays(RULE, shelf), [((2, 1), (1, 1))]),
    (lambda shelf, roll: slots(RULE, shelf, roll), [((1, 1), (1, 2)), (1, 1)]),
    (lambda shelf: fitting_rules(shelf, 2), [((1, 1), (1, 2))]),
    (lambda rules, roll, other: word_over(rules, roll, other), [(RULE, -RULE), (1, 2), (3, 4)]),
    (lambda shelf: shelf_cut(shelf, 2).rows, [((1, 5), (2, 3))]),
    (lambda shelf, rows: judge_cut(shelf, 1, ShelfCut(rows)), [((1,), (2,)), ((((0, -1),), 0, 1),)]),
    (lambda first, second: demand(RULE, first, second), [(1,), (1,)]),
    (lambda shelf: shelf_demands(RULE, shelf), [((1,), (1,))]),
    (lambda shelf, events: demand_spans(RULE, shelf, events), [((1,), (1,)), ("a", "b")]),
    (lambda shelf, events: possible_rules(NETWORK, shelf, events, 1), [((1,), (1,)), ("a", "b")]),
    (lambda shelf, events: rule_table(NETWORK, shelf, events, 1).rows, [((1,), (1,)), ("a", "b")]),
    (lambda events, rows: judge_rules(NETWORK, [(), ()], events, 0, RuleTable(rows)), [("a", "b"), (ROW,)]),
    (lambda shelf, events: shelf_between(NETWORK, shelf, events, 1, "a", "b"), [((1,), (1,)), ("a", "b")]),
    (lambda *parts: str(Frame(*parts, last=3)), [
        ("a", "b"), ("p", "q"), (("a", ("p", "q")),), (("c", 1, 2),), ("m",), (("r", "a", (1,)),), (("s", ("r",)),),
    ]),
    (lambda values: str(Past(Frame(("a",), ("p",), cycles=[("c", 1, 2)], last=3), values)), [
        (1, (0, 2), "p", ("p",), 0, (2, 1)),
    ]),
    (lambda words: str(Statement(words)), [("apart", "a", "b", None, 1)]),
    (lambda rows: Lot(HOUSE, rows).rows, [DAYS]),
    (lambda papers: all_ties(HOUSE, papers), [PAPERS]),
    (lambda papers: scope_of(HOUSE, papers, ("paper", 1)), [PAPERS]),
    (lambda papers: fits(HOUSE, papers, Past(HOUSE, [0, 2])), [PAPERS]),
    (lambda papers: is_supported(HOUSE, papers, Lot(HOUSE), ("paper", 0), ("day", "a"), 2), [PAPERS]),
    (lambda papers, order: close(HOUSE, papers, order=order).rows, [PAPERS, (("paper", 1), ("paper", 0))]),
    (lambda papers, order: trail(HOUSE, papers, order=order), [PAPERS, (("paper", 1), ("paper", 0))]),
    (lambda papers, strikes: judge_trail(HOUSE, papers, strikes).rows, [PAPERS, STRIKES]),
    (lambda papers, strikes: bridges(HOUSE, papers, strikes), [PAPERS, STRIKES]),
    (lambda papers, strikes: lean_trail(HOUSE, papers, strikes), [PAPERS, STRIKES]),
    (lambda papers: [past.assigned for past in pasts(HOUSE, papers)], [PAPERS]),
    (lambda papers: first_past(HOUSE, papers).assigned, [PAPERS]),
    (lambda papers: count_pasts(HOUSE, papers), [PAPERS]),
    (lambda papers: true_lot(HOUSE, papers).rows, [PAPERS]),
    (lambda papers: refute(HOUSE, papers).steps(), [BAD]),
    (lambda papers: judge_refutation(HOUSE, papers, REFUTED), [BAD]),
    (lambda papers: verdict(HOUSE, papers, CLAIM).witnesses, [PAPERS]),
    (lambda papers, witnesses: judge_verdict(HOUSE, papers, CLAIM, Verdict("open", witnesses, ())),
        [PAPERS, OPEN.witnesses]),
    (lambda papers: list(survey(HOUSE, papers, CLAIM, ~CLAIM)), [PAPERS]),
    (lambda papers: vars(days_between(HOUSE, papers, "a", "b"))["least"], [PAPERS]),
    (lambda papers: sure_order(HOUSE, papers).pairs(), [PAPERS]),
    (lambda papers: sure_together(HOUSE, papers), [PAPERS]),
    (lambda papers: sure_heard(HOUSE, papers, "a"), [PAPERS]),
    (lambda papers: conflict(HOUSE, papers), [BAD]),
    (lambda papers: least_dropped(HOUSE, papers), [BAD]),
    (lambda papers: best_question(HOUSE, papers, CLAIM), [PAPERS]),
]


def deep_lists(value):
    return [deep_lists(part) for part in value] if isinstance(value, tuple) else value


class GeneralTest(unittest.TestCase):
    def test_lists_and_tuples_are_taken_alike(self):
        for call, rows in CALLS:
            self.assertEqual(call(*rows), call(*[list(row) for row in rows]))

    def test_no_argument_is_changed(self):
        for call, rows in CALLS:
            passed = [list(row) for row in rows]
            call(*passed)
            self.assertEqual(passed, [list(row) for row in rows])

    def test_returned_lists_are_new(self):
        for call, rows in CALLS:
            found = call(*rows)
            if isinstance(found, list):
                kept = list(found)
                found.append(None)
                self.assertEqual(call(*rows), kept)

    def test_what_is_kept_is_tuples_also_inside(self):
        for made, rows in (
            (lambda rows: ShelfCut(rows).rows, ((((0, -1),), 0, 1),)), (lambda rows: RuleTable(rows).rows, (ROW,)),
            (lambda rows: Rule(rows).terms, ((0, 1),)), (lambda rows: Statement(rows).words, ("began", "ann")),
            (lambda rows: Frame(("a",), ("p", "q"), rows).meetings, (("a", ("p", "q")),)),
            (lambda rows: Frame(("a",), marks=("m",), rolls=rows).rolls, (("r", "a", (1,)),)),
            (lambda rows: Frame(("a",), rolls=[("r", "a", ())], shelves=rows).shelves, (("s", ("r",)),)),
            (lambda rows: Past(Frame(("a",), shelves=[("s", ())]), rows).assigned, (3, ((0, 1),), "")),
            (lambda rows: Lot(HOUSE, rows).rows, DAYS), (lambda rows: Refutation(rows, None, ()).strikes, STRIKES),
            (lambda rows: Refutation((), ("day", "a"), rows).children, ((0, REFUTED), (1, REFUTED))),
            (lambda rows: Verdict("open", rows, ()).witnesses, OPEN.witnesses),
            (lambda rows: Verdict("void", (), rows).refutations, (REFUTED,)),
        ):
            self.assertEqual(made(deep_lists(rows)), rows)


if __name__ == "__main__":
    unittest.main()
