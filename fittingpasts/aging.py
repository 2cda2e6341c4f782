"""Rules by hidden marks and the days of events: which rules are possible in a network of spans."""

from fittingpasts.demands import shelf_demands
from fittingpasts.errors import NoRule
from fittingpasts.rules import all_rules
from fittingpasts.spans import Network, judge_ring, positive_ring
from fittingpasts.words import as_tuples, check_known


def _span_of(signs, point, other):
    """Return the span that says that the sign of the days of two points is one of these."""
    if 1 in signs:
        return (other, point, 0 if 0 in signs else 1)
    return (point, other, 0 if 0 in signs else 1)


def demand_spans(rule, shelf, events):
    """Return the list of the spans that say what the demands say, or None if a demand cannot be met."""
    demands = shelf_demands(rule, shelf)
    if any([signs == () for _, _, signs in demands]):
        return None
    return [_span_of(signs, events[first], events[second]) for first, second, signs in demands]


def _with_demands(network, rule, shelf, events):
    """Return the network with the demand spans of the rule added, or None if there are none to add."""
    spans = demand_spans(rule, shelf, events)
    if spans is None:
        return None
    return Network(network.points, (*network.spans, *spans), first=network.first, last=network.last)


def _is_possible(network, rule, shelf, events):
    """Return True if the shelf may be sorted by the rule."""
    demanding = _with_demands(network, rule, shelf, events)
    return demanding is not None and demanding.is_possible()


def possible_rules(network, shelf, events, known):
    """Return the list of the full rules by which the shelf may be sorted, ascending."""
    check_known(events, network.points)
    return [rule for rule in all_rules(known + 1) if _is_possible(network, rule, shelf, events)]


class RuleTable:
    """The certificate that rules are not possible: triples of the terms of a rule, a pair and a ring."""

    def __init__(self, rows):
        self.rows = as_tuples(rows)


def _unmet_pairs(rule, shelf):
    """Return the list of the pairs of indexes whose demand cannot be met."""
    return [(first, second) for first, second, signs in shelf_demands(rule, shelf) if signs == ()]


def rule_table(network, shelf, events, known):
    """Return the table of the full rules that are not possible, each with what shuts it."""
    check_known(events, network.points)
    rows = []
    for rule in all_rules(known + 1):
        unmet = _unmet_pairs(rule, shelf)
        if unmet:
            rows.append((rule.terms, unmet[0], ()))
        elif not _is_possible(network, rule, shelf, events):
            rows.append((rule.terms, (), positive_ring(_with_demands(network, rule, shelf, events))))
    return RuleTable(rows)


def _is_shut(network, rule, shelf, events, row):
    """Return True if the pair or the ring of a row shuts the rule."""
    _, pair, ring = row
    if pair in _unmet_pairs(rule, shelf):
        return True
    demanding = _with_demands(network, rule, shelf, events)
    return demanding is not None and judge_ring(demanding, ring)


def judge_rules(network, shelf, events, known, table):
    """Return True if the table shuts different rules, ascending, and all others are possible."""
    check_known(events, network.points)
    shut = []
    for rule in all_rules(known + 1):
        rows = [row for row in table.rows if row[0] == rule.terms]
        if rows and not _is_shut(network, rule, shelf, events, rows[0]):
            return False
        if not rows and not _is_possible(network, rule, shelf, events):
            return False
        if rows:
            shut.append(rule.terms)
    # A row for what is no full rule, one too many and a wrong order all show here.
    return [row[0] for row in table.rows] == shut


def shelf_between(network, shelf, events, known, before, after):
    """Return the least and the greatest difference of the days of two points by any possible rule."""
    check_known((*events, before, after), network.points)
    rules = possible_rules(network, shelf, events, known)
    if len(rules) == 0:
        raise NoRule(rule_table(network, shelf, events, known))
    bounds = [_with_demands(network, rule, shelf, events).between(before, after) for rule in rules]
    return (min([least for least, _ in bounds]), max([most for _, most in bounds]))
