import unittest
from itertools import product

from fittingpasts import statements
from fittingpasts.frames import Frame
from fittingpasts.past import Past
from fittingpasts.statements import (
    Apart, Astray, Began, Clause, Dated, Filed, Heard, Long, OnDay, Outranks, Piled, Present, Rises, SameRule,
    Statement, Together, Told, Whole,
)
from fittingpasts.variables import values_of, variables
from tests.helpers import BIG, Case, Numbers
from tests.houses import FULL, PAIR, irregular_values

# Each kind with its words, and its scope in the full frame.
KINDS = [
    (Apart("fire", "feast", 1), ("apart", "fire", "feast", 1, None), [("day", "fire"), ("day", "feast")]),
    (Apart("fall", "fire", None, -2), ("apart", "fall", "fire", None, -2), [("day", "fire"), ("day", "fall")]),
    (Apart("fire", "fire"), ("apart", "fire", "fire", None, None), [("day", "fire")]),
    (Apart("ben-", "cid+", 0, 3), ("apart", "ben-", "cid+", 0, 3), [("stay", "ben"), ("stay", "cid")]),
    (Apart("ben-", "ben+", -1, 0), ("apart", "ben-", "ben+", -1, 0), [("stay", "ben")]),
    (Apart("ann+", "fall", most=3), ("apart", "ann+", "fall", None, 3), [("day", "fall"), ("stay", "ann")]),
    (OnDay("feast", 1, 3), ("onday", "feast", 1, 3), [("day", "feast")]),
    (OnDay("cid-", -2, 2), ("onday", "cid-", -2, 2), [("stay", "cid")]),
    (Dated("fall", "week", 1), ("dated", "fall", "week", 1), [("day", "fall"), ("cycle", "week")]),
    (Dated("ann+", "ann", 0), ("dated", "ann+", "ann", 0), [("stay", "ann"), ("cycle", "ann")]),
    (Long("week", 3, 9), ("long", "week", 3, 9), [("cycle", "week")]),
    (Whole("week", "ann"), ("whole", "week", "ann"), [("cycle", "week"), ("cycle", "ann")]),
    (Whole("ann", "week"), ("whole", "ann", "week"), [("cycle", "week"), ("cycle", "ann")]),
    (Whole("week", "week"), ("whole", "week", "week"), [("cycle", "week")]),
    (Present("cid", "fall"), ("present", "cid", "fall"), [("day", "fall"), ("stay", "cid")]),
    (Together("cid", "ann"), ("together", "cid", "ann"), [("stay", "ann"), ("stay", "cid")]),
    (Together("ben", "ben"), ("together", "ben", "ben"), [("stay", "ben")]),
    (Heard("ann", "fall"), ("heard", "ann", "fall"), [("day", "fall"), ("heard", "ann")]),
    (Heard("ben", "ann-"), ("heard", "ben", "ann-"), [("stay", "ann"), ("heard", "ben")]),
    (Told("cid", "ann"), ("told", "cid", "ann", None), [("source", "ann")]),
    (Told("cid", "ann", "feast"), ("told", "cid", "ann", "feast"), [("source", "ann")]),
    (Told("cid", "ann", "fall"), ("told", "cid", "ann", "fall"), [("source", "ann")]),
    (Told("ann", "ann"), ("told", "ann", "ann", None), [("source", "ann")]),
    (Began("ben"), ("began", "ben"), [("begin", "")]),
    (Rises("attic", "size"), ("rises", "attic", "size"), [("rule", "attic")]),
    (Rises("ann", "age"), ("rises", "ann", "age"), [("rule", "ann")]),
    (Outranks("attic", "age", "fire"), ("outranks", "attic", "age", "fire"), [("rule", "attic")]),
    (Outranks("attic", "size", "size"), ("outranks", "attic", "size", "size"), [("rule", "attic")]),
    (SameRule("ann", "attic"), ("samerule", "ann", "attic"), [("rule", "attic"), ("rule", "ann")]),
    (SameRule("ann", "ann"), ("samerule", "ann", "ann"), [("rule", "ann")]),
    (Astray("attic"), ("astray", "attic", None), [("astray", "attic")]),
    (Astray("attic", "ann"), ("astray", "attic", "ann"), [("astray", "attic")]),
    (Astray("attic", "will"), ("astray", "attic", "will"), [("astray", "attic")]),
    (Filed("ann", "will", "note"), ("filed", "ann", "will", "note"),
        [("day", "fire"), ("day", "feast"), ("rule", "ann")]),
    (Filed("attic", "note", "deed"), ("filed", "attic", "note", "deed"), [("day", "feast"), ("rule", "attic")]),
    (Filed("attic", "note", "note"), ("filed", "attic", "note", "note"), [("day", "feast"), ("rule", "attic")]),
    (Piled("ann", "will"), ("piled", "ann", "will"), [("day", "fire"), ("day", "fall")]),
    (Piled("note", "deed"), ("piled", "note", "deed"), [("day", "feast")]),
]
CLASSES = (
    Apart, OnDay, Dated, Long, Whole, Present, Together, Heard, Told, Began, Rises, Outranks, SameRule, Astray, Filed,
    Piled,
)
SMALL = [
    (Frame(("a", "b"), ("p",), last=1), [
        *[Apart(x, y, least, most) for x in ("a", "p+", "p-") for y in ("a", "b", "p-")
          for least in (None, -1, 0, 1) for most in (None, 0, 1)],
        *[OnDay(x, first, last) for x in ("b", "p+", "p-") for first in (-1, 0, 1, 2) for last in (0, 1, 5)],
        Present("p", "a"), Present("p", "b"), Together("p", "p"),
        *[Heard("p", x) for x in ("a", "b", "p+", "p-")], Began("p"), Told("p", "p"), Told("p", "p", "a"),
    ]),
    (Frame(("a",), ("p", "q"), [("a", ("q", "p"))], last=1), [
        Present("q", "a"), Together("p", "q"), Heard("q", "a"), Heard("p", "q-"), Began("p"), Began("q"),
        *[Told(x, y, event) for x in ("p", "q") for y in ("p", "q") for event in (None, "a")],
        Apart("p-", "q+", 0, 1), Apart("q+", "p-", None, 0),
    ]),
    (Frame(("a", "b"), ("p", "q"), [("a", ("q", "p")), ("b", ("p", "q"))], last=1), [
        *[Told(x, y, event) for x in ("p", "q") for y in ("p", "q") for event in (None, "a", "b")], Heard("p", "b"),
    ]),
    (Frame(("a", "b"), cycles=[("c", 1, 4), ("d", 2, 3)], last=3), [
        *[Dated(point, name, place) for point in ("a", "b") for name in ("c", "d") for place in range(3)],
        Dated("a", "c", 3),
        *[Long(name, least, most) for name in ("c", "d") for least in (-1, 2, 3) for most in (2, 3, 9)],
        Whole("c", "d"), Whole("d", "c"), Whole("c", "c"),
    ]),
    (Frame(("a", "b"), marks=("m",), rolls=[("r", "a", (1,)), ("s", "b", (2,)), ("t", "b", (1,)), ("u", "a", (1,))],
           shelves=[("x", ("s", "r")), ("y", ("t",))], last=2), [
        *[Rises(shelf, mark) for shelf in ("x", "y") for mark in ("m", "age")],
        *[Outranks("y", mark, other) for mark in ("m", "age") for other in ("m", "age")],
        SameRule("x", "y"), SameRule("y", "y"), *[Astray("x", roll) for roll in (None, "r", "s", "t")], Astray("y"),
        *[Filed("x", roll, other) for roll in "rstu" for other in "rstu"], Filed("y", "r", "s"), Filed("y", "t", "r"),
        *[Piled(roll, other) for roll in "rst" for other in "rst"],
    ]),
    (Frame(("a", "b"), marks=("m", "n"), rolls=[("r", "a", (1, 5)), ("s", "b", (1, 4))], shelves=[("x", ())], last=1), [
        *[Rises("x", mark) for mark in ("m", "n", "age")], Filed("x", "r", "s"), Filed("x", "s", "r"), Astray("x"),
        *[Outranks("x", mark, other) for mark in ("m", "n", "age") for other in ("m", "n", "age")], Astray("x", "r"),
    ]),
]


def on(past, point):
    if point[-1] in "+-":
        return past["stay", point[:-1]]["+-".index(point[-1])]
    return past["day", point]


def directions(past, shelf):
    names = [*past.frame.marks, "age"]
    return [(names[mark], direction) for mark, direction in past["rule", shelf]]


def rolled(past, roll):
    _, event, values = [row for row in past.frame.rolls if row[0] == roll][0]
    return {**dict(zip(past.frame.marks, values)), "age": past["day", event]}


def filed(past, shelf, roll, other):
    for mark, direction in directions(past, shelf):
        if rolled(past, roll)[mark] != rolled(past, other)[mark]:
            return rolled(past, roll)[mark] * direction < rolled(past, other)[mark] * direction
    return False


def whole_in(inner, outer):
    """All days on which the outer cycle shows 0 are such of the inner one, and its length is a multiple."""
    starts = [day for day in range(200) if (day + outer[1]) % outer[0] == 0]
    return outer[0] % inner[0] == 0 and all((day + inner[1]) % inner[0] == 0 for day in starts)


def days_of_stay(past, person):
    come, go = past["stay", person]
    return set(range(come, go + 1))


# Point 75 word by word.
TRUTHS = {
    "apart": lambda past, x, y, least, most: on(past, y) - on(past, x) in range(
        -BIG if least is None else least, (BIG if most is None else most) + 1),
    "onday": lambda past, x, first, last: first <= on(past, x) <= last,
    "dated": lambda past, x, cycle, place: (on(past, x) + past["cycle", cycle][1]) % past["cycle", cycle][0] == place,
    "long": lambda past, cycle, least, most: least <= past["cycle", cycle][0] <= most,
    "whole": lambda past, inner, outer: whole_in(past["cycle", inner], past["cycle", outer]),
    "present": lambda past, person, event: past["day", event] in days_of_stay(past, person),
    "together": lambda past, person, other: bool(days_of_stay(past, person) & days_of_stay(past, other)),
    "heard": lambda past, person, x: past["heard", person] <= on(past, x),
    "told": lambda past, teller, hearer, event: past["source", hearer] in [
        (teller, name) for name in past.frame.events if event in (None, name)],
    "began": lambda past, person: past["begin", ""] == person,
    "rises": lambda past, shelf, mark: (mark, 1) in directions(past, shelf),
    "outranks": lambda past, shelf, mark, other: [
        name for name, _ in directions(past, shelf) if name in (mark, other)].index(mark) == 0 and mark != other,
    "samerule": lambda past, shelf, other: past["rule", shelf] == past["rule", other],
    "astray": lambda past, shelf, roll: past["astray", shelf] != "" and roll in (None, past["astray", shelf]),
    "filed": filed,
    "piled": lambda past, lower, upper: rolled(past, lower)["age"] <= rolled(past, upper)["age"],
}


def means(statement, past):
    return TRUTHS[statement.words[0]](past, *statement.words[1:]) is statement.positive


class WordsTest(Case):
    def test_each_kind_has_its_words(self):
        for statement, words, _ in KINDS:
            self.assertEqual((statement.words, statement.positive), (words, True))
            self.assertIs(type(statement.words), tuple)
        self.assertEqual({type(statement) for statement, _, _ in KINDS}, set(CLASSES))

    def test_arguments_by_name(self):
        for statement, words in (
            (Apart(first="a", second="b", least=None, most=2), ("apart", "a", "b", None, 2)),
            (OnDay(point="a", first=1, last=2), ("onday", "a", 1, 2)),
            (Dated(point="a", cycle="c", place=2), ("dated", "a", "c", 2)),
            (Long(cycle="c", least=1, most=2), ("long", "c", 1, 2)),
            (Whole(inner="c", outer="d"), ("whole", "c", "d")),
            (Present(person="p", event="a"), ("present", "p", "a")),
            (Together(person="p", other="q"), ("together", "p", "q")),
            (Heard(person="p", point="a"), ("heard", "p", "a")),
            (Told(teller="p", hearer="q", event=None), ("told", "p", "q", None)),
            (Began(person="p"), ("began", "p")),
            (Rises(shelf="x", mark="m"), ("rises", "x", "m")),
            (Outranks(shelf="x", mark="m", other="age"), ("outranks", "x", "m", "age")),
            (SameRule(shelf="x", other="y"), ("samerule", "x", "y")),
            (Astray(shelf="x", roll=None), ("astray", "x", None)),
            (Filed(shelf="x", roll="r", other="s"), ("filed", "x", "r", "s")),
            (Piled(lower="r", upper="s"), ("piled", "r", "s")),
            (Statement(words=["began", "p"], positive=False), ("began", "p")),
        ):
            self.assertEqual(statement.words, words)

    def test_classes(self):
        for kind in CLASSES:
            self.assertEqual(kind.__bases__, (Statement,))
        found = [
            name for name, value in vars(statements).items() if isinstance(value, type) and issubclass(value, Statement)
        ]
        self.assertEqual(sorted(found), sorted(["Statement", *[kind.__name__ for kind in CLASSES]]))

    def test_the_constructors_check_nothing(self):
        self.assertEqual(Apart("", "or", BIG, -BIG).words, ("apart", "", "or", BIG, -BIG))
        self.assertEqual(Statement(("what", 1)).words, ("what", 1))
        self.assertEqual(Statement([]).words, ())

    def test_words_are_a_copy(self):
        words = ["began", "ann"]
        statement = Statement(words)
        words.clear()
        self.assertEqual(statement.words, ("began", "ann"))

    def test_negations(self):
        for statement, words, _ in KINDS:
            denied = ~statement
            self.assertEqual((denied.words, denied.positive), (words, False))
            self.assertEqual((statement.words, statement.positive), (words, True))
            self.assertIsInstance(denied, Statement)
            self.assertEqual((~denied).positive, True)
            self.assertEqual(~denied, statement)
            self.assertNotEqual(denied, statement)

    def test_equality(self):
        for first, words, _ in KINDS:
            for second, other, _ in KINDS:
                self.assertEqual(first == second, words == other)
            self.assertEqual(first, Statement(words))
            self.assertEqual(Statement(list(words)), first)
            self.assertEqual(~first, Statement(words, False))
            self.assertNotEqual(first, Statement(words, False))
            self.assertFalse(first == words)
            self.assertFalse(first == Clause(first))


class ScopeTest(Case):
    def test_each_kind(self):
        for statement, words, scope in KINDS:
            for same in (statement, ~statement, Statement(words), Statement(list(words), positive=False)):
                self.assertEqual(same.scope(FULL), tuple(scope), words)
        self.assertEqual(Began("ann").scope(frame=PAIR), (("begin", ""),))


class TruthTest(Case):
    def test_in_all_pasts_of_small_frames(self):
        for frame, rows in SMALL:
            names = variables(frame)
            every = [Past(frame, row) for row in product(*[values_of(frame, name) for name in names])]
            # No variable has 7 values: so each value of each of them is met beside each of the others.
            every = every[::7 if len(every) > 1500 else 1]
            for statement in rows:
                self.check(frame, statement, every)

    def check(self, frame, statement, every):
        scope = statement.scope(frame)
        denied, plain = ~statement, Statement(list(statement.words))
        for past in every:
            right = means(statement, past)
            values = tuple(past[name] for name in scope)
            self.assertIs(statement.holds(past), right, (statement.words, str(past)))
            self.assertIs(statement.holds_with(frame, values), right)
            self.assertIs(denied.holds(past), not right)
            self.assertIs(denied.holds_with(frame, list(values)), not right)
            self.assertIs(plain.holds(past), right)

    def test_each_kind_is_true_and_false_somewhere(self):
        numbers = Numbers(6)
        every = [Past(FULL, irregular_values(numbers, FULL)) for _ in range(250)]
        for statement, words, scope in KINDS:
            found = set()
            for past in every:
                right = means(statement, past)
                self.assertIs(statement.holds(past=past), right)
                self.assertIs((~~statement).holds(past), right)
                self.assertIs(Statement(words).holds_with(frame=FULL, values=[past[name] for name in scope]), right)
                found.add(right)
            never = (
                Told("ann", "ann"), Told("cid", "ann", "fall"), Astray("attic", "will"),
                Outranks("attic", "size", "size"),
                Filed("attic", "note", "note"), Whole("week", "ann"),
            )
            always = (
                Apart("fire", "fire"), Together("ben", "ben"), SameRule("ann", "ann"), Piled("note", "deed"),
                Whole("week", "week"), Whole("ann", "week"), Dated("ann+", "ann", 0),
            )
            if statement in never or statement in always:
                self.assertEqual(found, {statement in always}, words)
            else:
                self.assertEqual(found, {True, False}, words)

    def test_no_bounds(self):
        past = Past(PAIR, (6, 0, (0, 6), (0, 6), "ann", (), (), 7, 7))
        for least, most, right in (
            (None, None, True), (-6, None, True), (-5, None, False), (None, -6, True), (None, -7, False),
            (-6, -6, True),
            (0, -6, False), (-BIG, BIG, True),
        ):
            self.assertIs(Apart("fire", "feast", least, most).holds(past), right)
        self.assertFalse(Heard("ann", "fire").holds(past))
        self.assertFalse(Told("ann", "ben").holds(past))


class ClauseTest(Case):
    ONE, TWO, THREE = Began("ann"), OnDay("fire", 1, 2), ~Heard("ben", "feast")

    def test_example_of_the_interface(self):
        either = ~Apart("fire", "feast", 1) | Heard("ann", "ben+")
        self.assertEqual([str(either), len(either)], ["not apart fire feast 1 - or heard ann ben+", 2])

    def test_joining_in_every_mix(self):
        one, two, three = self.ONE, self.TWO, self.THREE
        for clause, parts in (
            (Clause(), []), (Clause(one), [one]), (Clause(one, two, one), [one, two, one]), (one | two, [one, two]),
            (two | one, [two, one]), (one | one, [one, one]), (one | two | three, [one, two, three]),
            (one | (two | three), [one, two, three]), ((one | two) | (three | one), [one, two, three, one]),
            (Clause() | one, [one]), (one | Clause(), [one]), (Clause() | Clause(), []),
            (Clause(one) | Clause(two, three), [one, two, three]), (Clause(two) | one, [two, one]),
        ):
            self.assertIsInstance(clause, Clause)
            self.assertEqual(clause.statements(), parts)
            self.assertEqual(len(clause), len(parts))

    def test_operands_stay_and_lists_are_new(self):
        first, second = Clause(self.ONE), Clause(self.TWO)
        both = first | second
        both.statements().append(self.THREE)
        first.statements().clear()
        self.assertEqual([len(first), len(second), len(both), len(both.statements())], [1, 1, 2, 2])
        self.assertIs(type(both.statements()), list)

    def test_equality_by_the_order(self):
        one, two = self.ONE, self.TWO
        self.assertEqual(one | two, Clause(one, two))
        self.assertEqual(one | two, Clause(Statement(("began", "ann")), two))
        self.assertNotEqual(one | two, two | one)
        self.assertNotEqual(one | two, one | ~two)
        self.assertNotEqual(one | one, Clause(one))
        self.assertFalse(Clause(one) == one)
        self.assertFalse(Clause(one) == [one])
        self.assertEqual(Clause(), Clause())

    def test_scopes(self):
        clause = Filed("attic", "note", "ann") | Apart("fall", "ben+") | Present("ben", "fire")
        clause = clause | Filed("attic", "ann", "note")
        right = (("day", "fire"), ("day", "feast"), ("day", "fall"), ("stay", "ben"), ("rule", "attic"))
        self.assertEqual(clause.scope(FULL), right)
        self.assertEqual(Clause().scope(frame=FULL), ())
        self.assertEqual(Clause(Told("cid", "ann")).scope(FULL), (("source", "ann"),))

    def test_truth(self):
        frame, rows = SMALL[0]
        every = [Past(frame, row) for row in product(*[values_of(frame, name) for name in variables(frame)])]
        numbers = Numbers(14)
        for _ in range(60):
            parts = [numbers.choice(rows) for _ in range(numbers.below(4))]
            parts = [part if numbers.below(2) else ~part for part in parts]
            clause = Clause(*parts)
            for past in every:
                self.assertIs(clause.holds(past=past), any([means(part, past) for part in parts]))
        self.assertFalse(Clause().holds(every[0]))


class TextTest(Case):
    def test_each_kind(self):
        for statement, words, _ in KINDS:
            text = " ".join("-" if word is None else str(word) for word in words)
            self.assertEqual(str(statement), text)
            self.assertEqual(str(~statement), f"not {text}")
            self.assertEqual(str(Statement(words)), text)

    def test_texts(self):
        for statement, text in (
            (Apart("fire", "feast", 1), "apart fire feast 1 -"),
            (Apart("fire", "feast", most=-12), "apart fire feast - -12"),
            (Apart("ann+", "ben-"), "apart ann+ ben- - -"), (OnDay("fire", -3, 0), "onday fire -3 0"),
            (Dated("fire", "week", 0), "dated fire week 0"),
            (Long("week", 2, 123456789012345678), "long week 2 123456789012345678"),
            (Whole("a", "b"), "whole a b"), (Present("ann", "fire"), "present ann fire"),
            (Together("a", "b"), "together a b"),
            (Heard("ann", "ben+"), "heard ann ben+"), (~Told("ann", "ben"), "not told ann ben -"),
            (Told("ann", "ben", "fire"), "told ann ben fire"), (~~Began("ann"), "began ann"),
            (Rises("x", "age"), "rises x age"),
            (Outranks("x", "a", "b"), "outranks x a b"), (~SameRule("x", "y"), "not samerule x y"),
            (Astray("x"), "astray x -"),
            (Astray("x", "r"), "astray x r"), (Filed("x", "r", "s"), "filed x r s"), (Piled("r", "s"), "piled r s"),
            (Began("not"), "began not"),
        ):
            self.assertEqual(str(statement), text)

    def test_clauses(self):
        self.assertEqual(str(Clause()), "")
        self.assertEqual(str(Clause(Began("ann"))), "began ann")
        self.assertEqual(str(Began("ann") | ~Astray("x") | Piled("r", "s")), "began ann or not astray x - or piled r s")


if __name__ == "__main__":
    unittest.main()
