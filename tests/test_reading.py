import unittest

from fittingpasts.errors import EmptyClause, InvalidText, OutOfRange, TooMany, UnknownName
from fittingpasts.frames import Frame
from fittingpasts.reading import check_paper, check_papers, check_statement, parse_paper, parse_statement
from fittingpasts.statements import (
    Apart, Astray, Began, Clause, Dated, Filed, Heard, Long, OnDay, Outranks, Piled, Present, Rises, SameRule,
    Statement, Together, Told, Whole,
)
from tests.helpers import BIG, Case, Numbers
from tests.houses import FULL, PAIR
from tests.papers import small_frame, some_papers, some_statement

# Statements that suit the full frame, and for each of their words what is wrong in its place.
POINTS = ("", "fair", "fire+", "fire-", "dot+", "dot-", "+", "ann", "ann++", "or", "5")
EVENTS = ("", "fair", "ann", "fire+")
PEOPLE = ("", "dot", "fire", "ann+")
CYCLES = ("", "month", "ben")
SHELVES = ("", "desk", "ben", "size")
MARKS = ("", "hue", "ann", "deed")
ROLLS = ("", "map", "ben", "attic")
SUITING = [
    (Apart("fire", "feast", 1, 2), (POINTS, POINTS, (), ())),
    (Apart("ann+", "ben-"), (POINTS, POINTS, (), ())),
    (OnDay("cid-", -5, 9), (POINTS, (), ())),
    (Dated("fire", "week", 2), (POINTS, CYCLES, ())),
    (Long("ann", -BIG, BIG), (CYCLES, (), ())),
    (Whole("week", "ann"), (CYCLES, CYCLES)),
    (Present("ann", "fall"), (PEOPLE, EVENTS)),
    (Together("ann", "cid"), (PEOPLE, PEOPLE)),
    (Heard("ben", "ann+"), (PEOPLE, POINTS)),
    (Told("ann", "ben"), (PEOPLE, PEOPLE, EVENTS)),
    (Told("ben", "ann", "fall"), (PEOPLE, PEOPLE, EVENTS)),
    (Began("cid"), (PEOPLE,)),
    (Rises("attic", "fire"), (SHELVES, MARKS)),
    (Outranks("ann", "age", "size"), (SHELVES, MARKS, MARKS)),
    (SameRule("attic", "ann"), (SHELVES, SHELVES)),
    (Astray("attic"), (SHELVES, ROLLS)),
    (Astray("attic", "will"), (SHELVES, ROLLS)),
    (Filed("ann", "deed", "ann"), (SHELVES, ROLLS, ROLLS)),
    (Piled("will", "note"), (ROLLS, ROLLS)),
]


def with_word(statement, at, word):
    words = list(statement.words)
    words[at + 1] = word
    return Statement(words, statement.positive)


class CheckStatementTest(Case):
    def test_statements_that_suit(self):
        for statement, _ in SUITING:
            self.assertIsNone(check_statement(FULL, statement))
            self.assertIsNone(check_statement(frame=FULL, statement=~statement))
            self.assertIsNone(check_statement(FULL, Statement(list(statement.words))))

    def test_each_word_unknown(self):
        for statement, rows in SUITING:
            for at, row in enumerate(rows):
                for word in row:
                    wrong = with_word(statement, at, word)
                    self.assert_fails(UnknownName(word), lambda: check_statement(FULL, wrong))
                    self.assert_fails(UnknownName(word), lambda: check_statement(FULL, ~wrong))

    def test_the_first_unknown_word_is_told(self):
        for statement, rows in SUITING:
            wrong, unknown = statement, []
            for at, row in reversed(list(enumerate(rows))):
                if row:
                    unknown.insert(0, row[-1])
                    wrong = with_word(wrong, at, row[-1])
                    self.assert_fails(UnknownName(unknown[0]), lambda: check_statement(FULL, wrong))

    def test_points_are_told_whole(self):
        for point in ("dot+", "fire-", "annn+", "ann*", "fair", "+", "-", ""):
            self.assert_fails(UnknownName(point), lambda: check_statement(FULL, OnDay(point, 0, 1)))
            self.assert_fails(UnknownName(point), lambda: check_statement(FULL, Heard("ann", point)))

    def test_places_of_dated(self):
        for cycle, most in (("week", 3), ("ann", 1)):
            for place in (0, most - 1):
                self.assertIsNone(check_statement(FULL, Dated("fire", cycle, place)))
            for place in (-1, most, most + 1, BIG, -BIG):
                self.assert_fails(OutOfRange(place), lambda: check_statement(FULL, Dated("fire", cycle, place)))
        self.assert_fails(UnknownName("fair"), lambda: check_statement(FULL, Dated("fair", "week", 3)))
        self.assert_fails(UnknownName("month"), lambda: check_statement(FULL, Dated("fire", "month", 30)))

    def test_two_equal_names_and_any_numbers(self):
        for statement in (
            Apart("fire", "fire", BIG, -BIG), Apart("ann+", "ann+"), Whole("week", "week"), Together("ann", "ann"),
            Told("ann", "ann", "fire"), Outranks("attic", "age", "age"), SameRule("attic", "attic"),
            Filed("attic", "deed", "deed"), Piled("will", "will"), OnDay("fire", BIG, -BIG), Long("week", 9, -9),
        ):
            self.assertIsNone(check_statement(FULL, statement))

    def test_frames_without_people_or_shelves(self):
        bare = Frame(("fire",))
        for statement, name in (
            (Began("ann"), "ann"), (Rises("attic", "age"), "attic"), (Piled("deed", "deed"), "deed"),
            (Long("week", 1, 2), "week"), (OnDay("ann+", 1, 2), "ann+"), (Heard("ann", "fire"), "ann"),
        ):
            self.assert_fails(UnknownName(name), lambda: check_statement(bare, statement))

    def test_the_age_is_a_mark_of_every_shelf(self):
        frame = Frame(("fire",), shelves=[("attic", ())])
        self.assertIsNone(check_statement(frame, Outranks("attic", "age", "age")))
        self.assert_fails(UnknownName("size"), lambda: check_statement(frame, Rises("attic", "size")))


class CheckPaperTest(Case):
    GOOD, BAD, WORSE = Began("ann"), Began("dot"), OnDay("fair", 0, 1)

    def test_papers_that_suit(self):
        for paper in (self.GOOD, ~self.GOOD, Clause(self.GOOD), self.GOOD | ~self.GOOD, Clause(*[self.GOOD] * 3)):
            self.assertIsNone(check_paper(FULL, paper))
        self.assertIsNone(check_paper(frame=FULL, paper=self.GOOD))

    def test_the_number_of_statements(self):
        self.assert_fails(EmptyClause(), lambda: check_paper(FULL, Clause()))
        for many in (4, 5):
            self.assert_fails(TooMany(3), lambda: check_paper(FULL, Clause(*[self.GOOD] * many)))
            self.assert_fails(TooMany(3), lambda: check_paper(FULL, Clause(*[self.BAD] * many)))

    def test_the_first_statement_that_does_not_suit(self):
        for paper, name in (
            (self.BAD, "dot"), (Clause(self.BAD), "dot"), (self.GOOD | self.BAD | self.WORSE, "dot"),
            (self.WORSE | self.BAD, "fair"), (self.GOOD | ~self.WORSE, "fair"),
        ):
            self.assert_fails(UnknownName(name), lambda: check_paper(FULL, paper))

    def test_papers_in_order(self):
        check_papers(FULL, [])
        check_papers(FULL, (self.GOOD, Clause(self.GOOD)))
        self.assert_fails(EmptyClause(), lambda: check_papers(FULL, [self.GOOD, Clause(), self.BAD]))
        self.assert_fails(UnknownName("dot"), lambda: check_papers(FULL, [self.GOOD, self.BAD, Clause()]))


class ParseStatementTest(Case):
    def test_example_of_the_interface(self):
        statement = parse_statement("not told ann ben -")
        self.assertEqual([statement.words, statement.positive], [("told", "ann", "ben", None), False])

    def test_each_kind_is_written_and_read_back(self):
        for statement, _ in SUITING:
            self.assertEqual(parse_statement(str(statement)), statement)
            self.assertEqual(parse_statement(text=str(~statement)), ~statement)
            self.assertIsInstance(parse_statement(str(statement)), Statement)
        numbers = Numbers(3)
        for _ in range(300):
            statement = some_statement(numbers, small_frame(numbers))
            self.assertEqual(parse_statement(str(statement)), statement)

    def test_numbers(self):
        most = 10 ** 18 - 1
        for number in (0, 7, -7, 10, -10, most, -most):
            for statement in (
                Apart("a", "b", number), Apart("a", "b", None, number), OnDay("a", number, 1), OnDay("a", 1, number),
                Dated("a", "c", number), Long("c", number, 1), Long("c", 1, number),
            ):
                self.assertEqual(parse_statement(str(statement)).words, statement.words)
        for word in ("1" * 19, "-" + "1" * 19, "01", "-01", "00", "-0", "--1", "+1", "1-", "-", "", "a", "1.0", "1_0"):
            for text in (f"onday a {word} 1", f"onday a 1 {word}", f"dated a c {word}", f"long c {word} 1"):
                self.assert_fails(InvalidText(text), lambda: parse_statement(text))
            if word != "-":
                for text in (f"apart a b {word} -", f"apart a b 1 {word}"):
                    self.assert_fails(InvalidText(text), lambda: parse_statement(text))

    def test_where_nothing_may_stand(self):
        for text, words in (
            ("apart a b - -", ("apart", "a", "b", None, None)), ("apart a b - 1", ("apart", "a", "b", None, 1)),
            ("apart a b 1 -", ("apart", "a", "b", 1, None)), ("told a b -", ("told", "a", "b", None)),
            ("astray x -", ("astray", "x", None)),
        ):
            self.assertEqual(parse_statement(text).words, words)
        for statement, rows in SUITING:
            for at in range(len(rows)):
                kind = statement.words[0]
                if (kind, at) not in (("apart", 2), ("apart", 3), ("told", 2), ("astray", 1)):
                    words = str(statement).split(" ")
                    words[at + 1] = "-"
                    text = " ".join(words)
                    self.assert_fails(InvalidText(text), lambda: parse_statement(text))

    def test_too_many_too_few_and_empty_words(self):
        for statement, _ in SUITING:
            text = str(statement)
            words = text.split(" ")
            wrong = [text + " a", text + " 1", text + " -", " ".join(words[:-1]), " " + text, text + " ", text.upper()]
            wrong += [" ".join([*words[:at], "", *words[at:]]) for at in range(1, len(words))]
            wrong += [text.replace(" ", "\t", 1), text.replace(" ", "\n", 1), text + "\n"]
            for row in wrong:
                self.assert_fails(InvalidText(row), lambda: parse_statement(row))
        for text in ("", " ", "not", "not ", "what a b", "fire", "clause", "-", "or"):
            self.assert_fails(InvalidText(text), lambda: parse_statement(text))

    def test_not_and_kinds_as_names(self):
        for text in ("not not began ann", "not  began ann", "Not began ann", "began not ann", "began ann not"):
            self.assert_fails(InvalidText(text), lambda: parse_statement(text))
        for text, words, positive in (
            ("began not", ("began", "not"), True), ("not began not", ("began", "not"), False),
            ("present not not", ("present", "not", "not"), True), ("together began told", ("together", "began", "told"), True),
            ("onday not+ 0 1", ("onday", "not+", 0, 1), True), ("not rises not not", ("rises", "not", "not"), False),
            ("filed apart filed not", ("filed", "apart", "filed", "not"), True),
            ("astray not not", ("astray", "not", "not"), True),
        ):
            found = parse_statement(text)
            self.assertEqual((found.words, found.positive), (words, positive))

    def test_names_and_points(self):
        for name in ("a", "abcdefgh", "age", "not", "apart"):
            self.assertEqual(parse_statement(f"began {name}").words, ("began", name))
            for end in ("", "+", "-"):
                self.assertEqual(parse_statement(f"onday {name}{end} 0 1").words, ("onday", name + end, 0, 1))
        for name in ("or", "abcdefghi", "A", "a1", "1", "a+", "a.", "ann+", "+", "-", ""):
            for text in (f"began {name}", f"rises {name} age", f"rises x {name}", f"piled r {name}", f"long {name} 1 2"):
                self.assert_fails(InvalidText(text), lambda: parse_statement(text))
        for point in ("or", "or+", "or-", "a++", "a+-", "+a", "+", "-", "abcdefghi+", "A+", ""):
            for text in (f"onday {point} 0 1", f"heard ann {point}", f"apart a {point} - -"):
                self.assert_fails(InvalidText(text), lambda: parse_statement(text))


class ParsePaperTest(Case):
    def test_clauses_are_written_and_read_back(self):
        numbers = Numbers(8)
        for _ in range(200):
            for paper in some_papers(numbers, small_frame(numbers), 4):
                clause = paper if isinstance(paper, Clause) else Clause(paper)
                found = parse_paper(str(paper))
                self.assertEqual(found, clause)
                self.assertIsInstance(found, Clause)

    def test_one_two_three_and_four_parts(self):
        parts = ["began ann", "not told ann ben -", "onday fire 1 2", "piled r s"]
        for many in (1, 2, 3):
            self.assertEqual(
                parse_paper(" or ".join(parts[:many])).statements(), [parse_statement(part) for part in parts[:many]]
            )
        for text in (" or ".join(parts), " or ".join(["", *parts]), " or ".join(["what"] * 4), " or  or  or "):
            self.assert_fails(InvalidText(text), lambda: parse_paper(text))

    def test_the_first_part_that_is_wrong(self):
        for text, part in (
            ("", ""), ("what", "what"), ("began ann or what or", "what or"), ("began ann or  or what", ""),
            ("began ann or began", "began"), ("began ann or", "began ann or"), ("or began ann", "or began ann"),
            ("began ann or or began ben", "or began ben"), ("began ann  or began ben", "began ann "),
            ("began ann or began Ben or what", "began Ben"), ("began ann or began ben or ", ""),
            ("began ann\nor began ben", "began ann\nor began ben"),
        ):
            self.assert_fails(InvalidText(part), lambda: parse_paper(text=text))

    def test_the_frame_is_not_looked_at(self):
        self.assertEqual(len(parse_paper("began zoe or dated moon+ tide 99")), 2)
        self.assert_fails(UnknownName("zoe"), lambda: check_paper(PAIR, parse_paper("began zoe or dated moon+ tide 99")))


if __name__ == "__main__":
    unittest.main()
