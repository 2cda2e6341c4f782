"""Rules by which rolls are laid: sequences of terms, each a mark and a direction."""

from fittingpasts.errors import InvalidRule, InvalidText

# There are the marks 0 to 3.
MOST_MARKS = 4


def is_term(term):
    """Return True if the tuple is a pair of a mark and a direction."""
    return len(term) == 2 and term[0] in range(MOST_MARKS) and term[1] in (1, -1)


def all_terms(count):
    """Return the list of the terms with marks below `count`, ascending by their ranks."""
    return [(mark, direction) for mark in range(count) for direction in (1, -1)]


def _read_term(word, text):
    """Return the term that a word of the text of a rule writes."""
    if len(word) != 2 or word[0] not in "0123" or word[1] not in "+-":
        raise InvalidText(text)
    return (int(word[0]), 1 if word[1] == "+" else -1)


class Rule:
    """Terms with different marks; the first one on whose mark two rolls differ says which comes first."""

    def __init__(self, terms):
        terms = tuple([tuple(term) for term in terms])
        marks = []
        for at, term in enumerate(terms):
            if not is_term(term) or term[0] in marks:
                raise InvalidRule(at)
            marks.append(term[0])
        self.terms = terms

    def __eq__(self, other):
        return isinstance(other, Rule) and self.terms == other.terms

    def __str__(self):
        return " ".join([f"{mark}+" if direction == 1 else f"{mark}-" for mark, direction in self.terms])

    def __call__(self, roll):
        """Return the key of a roll: its values on the marks of the rule, negated where the term descends."""
        return tuple([direction * roll[mark] for mark, direction in self.terms])

    def __neg__(self):
        return Rule([(mark, -direction) for mark, direction in self.terms])

    def __add__(self, other):
        return Rule((*self.terms, *[term for term in other.terms if self.direction_of(term[0]) == 0]))

    def compare(self, first, second):
        """Return -1 if the first roll comes before the second, 1 if it comes after it, and otherwise 0."""
        for mark, direction in self.terms:
            if first[mark] != second[mark]:
                return -direction if first[mark] < second[mark] else direction
        return 0

    def direction_of(self, mark):
        """Return the direction of the mark, or 0 if the rule does not have the mark."""
        for known, direction in self.terms:
            if known == mark:
                return direction
        return 0

    def mark_order(self):
        """Return the tuple of the marks."""
        return tuple([mark for mark, _ in self.terms])

    @staticmethod
    def plain(*marks):
        """Return the rule with these marks, all ascending."""
        return Rule([(mark, 1) for mark in marks])

    @classmethod
    def read(cls, text):
        """Return the rule that the text writes."""
        if text == "":
            return cls(())
        return cls([_read_term(word, text) for word in text.split(" ")])


def all_rules(count):
    """Return the list of the full rules for `count` marks, ascending."""
    prefixes = [()]
    for _ in range(count):
        prefixes = [
            (*prefix, term)
            for prefix in prefixes
            for term in all_terms(count)
            if term[0] not in [mark for mark, _ in prefix]
        ]
    return [Rule(terms) for terms in prefixes]
