import unittest

from fittingpasts.errors import Duplicate, TooMany, UnknownName
from fittingpasts.words import as_tuples, check_known, check_names, is_name, is_number
from tests.helpers import Case


class WordsTest(Case):
    def test_names(self):
        for name in ("a", "z", "ann", "not", "orr", "o", "r", "age", "abcdefgh"):
            self.assertIs(is_name(name), True)
        for text in ("", "or", "abcdefghi", "Ann", "a b", "a1", "a+", "-", "ann\n", " ann", "\u00e9", "\u0251"):
            self.assertIs(is_name(text), False)

    def test_numbers(self):
        for text in ("0", "7", "10", "9999"):
            self.assertIs(is_number(text, 4), True)
        for text in ("", "00", "07", "10000", "-1", "+1", "1 ", "1_0", "\u0661", "\u00b2", "a", "0x1"):
            self.assertIs(is_number(text, 4), False)
        self.assertIs(is_number("9" * 18, 18), True)
        self.assertIs(is_number("1" + "0" * 18, 18), False)

    def test_lists_of_names(self):
        self.assertIsNone(check_names(("a", "b"), 2))
        self.assert_fails(TooMany(2), lambda: check_names(("a", "a", "a"), 2))
        self.assert_fails(Duplicate("b"), lambda: check_names(("a", "b", "b", "a"), 4))
        self.assertIsNone(check_known(("b", "a", "a"), ("a", "b")))
        self.assert_fails(UnknownName("x"), lambda: check_known(("a", "x", "y"), ("a", "b")))

    def test_sequences_inside_of_sequences(self):
        given = [1, "ab", None, (2, [3, ["x", ()]]), []]
        self.assertEqual(as_tuples(given), (1, "ab", None, (2, (3, ("x", ()))), ()))
        self.assertEqual(given, [1, "ab", None, (2, [3, ["x", ()]]), []])
        self.assertEqual([as_tuples("ab"), as_tuples(7), as_tuples(None)], ["ab", 7, None])


if __name__ == "__main__":
    unittest.main()
