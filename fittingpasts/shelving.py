"""Shelves: which rolls are wrong by a rule, and which rules sort a shelf."""

from fittingpasts.errors import NotSorted
from fittingpasts.rules import Rule, all_rules, all_terms, is_term
from fittingpasts.words import as_tuples


def _pairs(shelf):
    """Return the list of the pairs of indexes of a shelf, ascending."""
    return [(first, second) for first in range(len(shelf)) for second in range(first + 1, len(shelf))]


def wrong_pairs(rule, shelf):
    """Return the list of the pairs of indexes of which the first roll comes after the second, ascending."""
    return [(first, second) for first, second in _pairs(shelf) if rule.compare(shelf[first], shelf[second]) == 1]


def strays(rule, shelf):
    """Return the list of the indexes of rolls in a wrong pair, without which the shelf is sorted."""
    wrong = wrong_pairs(rule, shelf)
    return [at for at in range(len(shelf)) if wrong and all([at in pair for pair in wrong])]


def _fits_in(rule, shelf, roll, at):
    """Return True if a sorted shelf is still sorted with the roll put in ahead of the one at an index."""
    if not all([rule.compare(ahead, roll) < 1 for ahead in shelf[:at]]):
        return False
    return all([rule.compare(roll, behind) < 1 for behind in shelf[at:]])


def slots(rule, shelf, roll):
    """Return the list of the indexes ahead of which the roll may be put in."""
    wrong = wrong_pairs(rule, shelf)
    if wrong:
        first, second = wrong[0]
        raise NotSorted(first, second)
    return [at for at in range(len(shelf) + 1) if _fits_in(rule, shelf, roll, at)]


def fitting_rules(shelf, count):
    """Return the list of the full rules by which the shelf is sorted, ascending."""
    return [rule for rule in all_rules(count) if not wrong_pairs(rule, shelf)]


def word_over(rules, roll, other):
    """Return the word that says by which of the rules the roll comes before the other one."""
    if len(rules) == 0:
        return "void"
    before = [rule.compare(roll, other) == -1 for rule in rules]
    if all(before):
        return "sure"
    return "open" if any(before) else "never"


class ShelfCut:
    """The certificate that rules do not sort a shelf: triples of a beginning of rules and two indexes."""

    def __init__(self, rows):
        self.rows = as_tuples(rows)


def _is_shut(shelf, prefix, first, second):
    """Return True if the first roll comes after the second by the last term of the prefix, and by none before."""
    if Rule(prefix[:-1]).compare(shelf[first], shelf[second]) != 0:
        return False
    return Rule(prefix[-1:]).compare(shelf[first], shelf[second]) == 1


def _cut_below(shelf, count, prefix):
    """Return the list of the rows of the cut whose prefixes are longer than this one and begin with it."""
    rows = []
    for term in all_terms(count):
        if term[0] in [mark for mark, _ in prefix]:
            continue
        longer = (*prefix, term)
        shut = [pair for pair in _pairs(shelf) if _is_shut(shelf, longer, pair[0], pair[1])]
        if shut:
            rows.append((longer, *shut[0]))
        else:
            rows.extend(_cut_below(shelf, count, longer))
    return rows


def shelf_cut(shelf, count):
    """Return the cut with the shortest prefixes, ascending, each with the least pair that is right."""
    return ShelfCut(_cut_below(shelf, count, ()))


def _is_row(shelf, count, row):
    """Return True if a row of a cut is right."""
    prefix, first, second = row
    marks = [term[0] for term in prefix]
    if len(prefix) == 0 or len(set(marks)) < len(marks):
        return False
    if not all([is_term(term) and term[0] < count for term in prefix]):
        return False
    return 0 <= first < second < len(shelf) and _is_shut(shelf, prefix, first, second)


def judge_cut(shelf, count, cut):
    """Return True if all rows of the cut are right and it shuts every full rule that does not sort the shelf."""
    if not all([_is_row(shelf, count, row) for row in cut.rows]):
        return False
    unsorted = [rule.terms for rule in all_rules(count) if wrong_pairs(rule, shelf)]
    return all([any([terms[:len(row[0])] == row[0] for row in cut.rows]) for terms in unsorted])
