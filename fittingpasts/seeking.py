"""Seeking: whether some past in the rows fits, found by asking first what is most in doubt.

A question is the index of a variable, of which the value is asked, or, below 0, -1 minus the index of a knot,
of which it is asked which case is true. Several variables, and several knots, are integers: the bit at an index
tells whether the one at this index is meant.
"""

from fittingpasts.grids import bits_of, has_many, size_of

FIRST_FAILURES = 64
# So that sizes by weights are told apart without fractions.
FINENESS = 1000000


def _grouped(groups, reach):
    """Return the groups of variables with those of one more tie joined."""
    apart = [group for group in groups if group & reach == 0]
    together = reach
    for group in groups:
        if group & reach != 0:
            together = together | group
    return [*apart, together]


def joined(reaches):
    """Return the list of the groups of variables that ties join; a tie is told by the variables that are open in it."""
    groups = []
    for reach in reaches:
        groups = _grouped(groups, reach)
    return groups


def are_spread(reaches):
    """Return True if no way leads from a variable over different ties back to it.

    If it is so, and the rows are closed, then every value in them is a value of some past that fits.
    """
    groups = []
    for reach in reaches:
        if any([has_many(group & reach) for group in groups]):
            return False
        groups = _grouped(groups, reach)
    return True


def narrowed(web, part, wanted):
    """Return rows with one value each that are a past of a free part, where it may be with wanted values."""
    rows, knots = part
    for place, others in enumerate(wanted):
        if has_many(rows[place]):
            best = rows[place] & others
            row = rows[place] if best == 0 else best
            rows, _ = web.chosen(rows, place, row & -row, knots)
    return rows


def _cost(many, weight):
    """Return the cost of a question: it is low for few answers, and for ties that failed often."""
    return many * FINENESS // weight


def _both(reason, other):
    """Return the reason that has all of two reasons."""
    return (reason[0] | other[0], reason[1] | other[1])


def _depends(question, waiting, reason):
    """Return True if a failure depends on the answer to the question after which these knots were waiting."""
    return reason[0] & (1 << question) != 0 if question >= 0 else reason[1] & waiting != 0


def _may_be_asked(question, binding):
    """Return True if the question is one of a variable, or of a knot that is not surely true."""
    return question >= 0 or -1 - question in binding


class Seeker:
    """Looks for pasts in the rows of a web. It learns which ties fail often, and asks for their variables first.

    A free part of rows is the pair of smaller rows, in each of which every value is one of a past that fits,
    and of the knots for which they are closed and spread; these say at least as much as the active ones.
    A reason is the pair of the variables and the knots on which it depends that nothing fits in some rows:
    nothing fits in other rows either, if these variables have the same rows and these knots are active.
    """

    def __init__(self, web):
        self._web = web
        self._weights = {}
        self._failures = 0
        # The question that failed last, and the reason of the last failure.
        self._culprit = 0
        self._reason = (0, 0)
        # The rows of the free part that was found last.
        self._last = None

    def binding(self, rows, active):
        """Return a dict of the active knots that do not hold for all choices of closed rows.

        The keys are the indexes of the knots, the values have the bits of the variables that are open in them.
        """
        open_places = sum([1 << place for place, row in enumerate(rows) if has_many(row)])
        found = {}
        for bit in bits_of(active):
            at = bit.bit_length() - 1
            knot = self._web.knots[at]
            reach = knot.reach & open_places
            # With one open variable alone each of its values is supported by what the others have: it may be any.
            if has_many(reach) and not knot.is_loose(rows):
                found[at] = reach
        return found

    def _variable_costs(self, rows, binding):
        """Return the list of the pairs of a cost and the index of a variable that is open in binding knots."""
        weights = {}
        for at, reach in binding.items():
            weight = self._weights.get(at, 1)
            for bit in bits_of(reach):
                weights[bit] = weights.get(bit, 0) + weight
        costs = []
        for bit, weight in weights.items():
            place = bit.bit_length() - 1
            costs.append((_cost(size_of(rows[place]), weight), place))
        return costs

    def branch(self, rows, binding):
        """Return the index of the variable whose value is best asked next."""
        return min(self._variable_costs(rows, binding))[1]

    def _case_costs(self, rows, binding):
        """Return the list of the pairs of a cost and the question of a binding knot with several open cases."""
        costs = []
        for at in binding:
            many = len(self._web.knots[at].open_cases(rows))
            if many > 1:
                costs.append((_cost(many, self._weights.get(at, 1)), -1 - at))
        return costs

    def _question(self, rows, binding):
        """Return the question that is best asked next."""
        return min([*self._variable_costs(rows, binding), *self._case_costs(rows, binding)])[1]

    def _own_reason(self, question, rows):
        """Return the reason that a question by itself gives: by these rows there are no other answers."""
        reach = 1 << question if question >= 0 else self._web.knots[-1 - question].closed_reach(rows)
        return reach, 0

    def _choices(self, row, place, wanted):
        """Return the list of the values of a row, each as its bit, in the order in which they are tried."""
        first = 0 if wanted is None else row & wanted[place]
        second = 0 if self._last is None else (row - first) & self._last[place]
        return [*bits_of(first), *bits_of(second), *bits_of(row - first - second)]

    def _answers(self, question, rows, active, wanted):
        """Return the list of the answers to a question: rows, the knots to ask in them, and those that are active."""
        if question < 0:
            at = -1 - question
            others = active & ~(1 << at)
            singles = [self._web.case_knot(at, case) for case in self._web.knots[at].open_cases(rows)]
            return [(rows, single, others | single) for single in singles]
        answers = []
        for bit in self._choices(rows[question], question, wanted):
            less, waiting = self._web.with_row(rows, question, bit, active)
            answers.append((less, waiting, active))
        return answers

    def _reason_ahead(self, cuts, reason):
        """Return on what it depends ahead of the cuts that nothing fits behind them for this reason."""
        kept, variables = self._web.needed(cuts, reason[0])
        knots = reason[1]
        for at, _, _ in kept:
            knots = knots | (1 << at)
        return variables, knots

    def learn_from(self, cuts):
        """Remember the knots that emptied a row by the last cut; return the reason of it."""
        reason = self._reason_ahead(cuts, (1 << cuts[-1][1], 0))
        self._failures -= 1
        for bit in bits_of(reason[1]):
            at = bit.bit_length() - 1
            known = self._web.whole_of.get(at, at)
            self._weights[known] = self._weights.get(known, 1) + 1
        return reason

    def fails_at(self, question, rows, active):
        """Return True if each answer to a question empties a row of closed rows; keep the reason then."""
        reason = self._own_reason(question, rows)
        for less, waiting, active_then in self._answers(question, rows, active, None):
            left, cuts = self._web.settled(less, waiting, active_then)
            if 0 not in left:
                return False
            reason = _both(reason, self.learn_from(cuts))
        self._reason = reason
        return True

    def free_part(self, rows, active, wanted=None):
        """Return a free part of closed rows for the active knots, or None if nothing in them fits.

        Where `wanted` has rows, their values are tried first.
        """
        most = FIRST_FAILURES
        while True:
            self._failures = most
            found = self._part_below(rows, active, wanted)
            if found is not None:
                self._last = found[0]
            if found is not None or self._failures > 0:
                return found
            # The first choices were bad ones: begin again, with what was learned.
            most = most * 2
            wanted = None

    def some_fit(self, rows, active):
        """Return True if some past in the rows fits the active knots."""
        closed = self._web.closed(rows, active)
        return 0 not in closed and self.free_part(closed, active) is not None

    def _part_below(self, rows, active, wanted):
        """Return a free part of closed rows, or None if there is none or too much failed; keep the reason then."""
        binding = self.binding(rows, active)
        if are_spread(list(binding.values())):
            return rows, active
        bound = sum([1 << at for at in binding])
        question = self._question(rows, binding)
        reason = self._own_reason(question, rows)
        asked = [question]
        for answer in self._answers(question, rows, bound, wanted):
            found = self._part_behind(question, answer, wanted)
            if found is not None or self._failures <= 0:
                return found
            # If the failure has nothing to do with the answer, the other answers fail as well.
            if not _depends(question, answer[1], self._reason):
                return None
            # So they do if what failed behind the answer fails here already.
            if self._culprit not in asked:
                asked.append(self._culprit)
                if _may_be_asked(self._culprit, binding) and self.fails_at(self._culprit, rows, bound):
                    return None
            reason = _both(reason, self._reason)
        self._culprit = question
        self._reason = reason
        return None

    def _part_behind(self, question, answer, wanted):
        """Return a free part of what an answer to the question leaves, or None; keep the reason then."""
        rows, waiting, active = answer
        less, cuts = self._web.settled(rows, waiting, active)
        if 0 in less:
            self._culprit = question
            self._reason = self.learn_from(cuts)
            return None
        found = self._part_below(less, active, wanted)
        if found is None:
            self._reason = self._reason_ahead(cuts, self._reason)
        return found
