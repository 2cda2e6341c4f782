import unittest

from fittingpasts import errors
from tests.helpers import Case

TREE = {
    "ArchiveError": ("ValueError", None),
    "UnknownError": ("ArchiveError", None),
    "TextError": ("ArchiveError", None),
    "ImpossibleError": ("ArchiveError", None),
    "UnknownName": ("UnknownError", "name"),
    "UnknownVariable": ("UnknownError", "variable"),
    "UnknownTie": ("UnknownError", "label"),
    "UnknownPaper": ("UnknownError", "number"),
    "InvalidText": ("TextError", "text"),
    "InvalidLine": ("TextError", "line"),
    "Disjoint": ("ImpossibleError", "divisor"),
    "NoCompletion": ("ImpossibleError", "ring"),
    "RingFound": ("ImpossibleError", "ring"),
    "NoMoves": ("ImpossibleError", "low middle high"),
    "NoStay": ("ImpossibleError", "bar"),
    "NoWay": ("ImpossibleError", "table"),
    "NoRule": ("ImpossibleError", "table"),
    "NoPast": ("ImpossibleError", "refutation"),
    "Contradiction": ("ImpossibleError", "numbers refutation"),
    "OutOfRange": ("ArchiveError", "value"),
    "TooMany": ("ArchiveError", "most"),
    "Duplicate": ("ArchiveError", "name"),
    "InvalidName": ("ArchiveError", "name"),
    "InvalidCalendar": ("ArchiveError", "at"),
    "UnlikeNames": ("ArchiveError", ""),
    "UnfitLine": ("ArchiveError", "at"),
    "BadMove": ("ArchiveError", "at"),
    "EmptyStay": ("ArchiveError", "come go"),
    "NoCommonDay": ("ArchiveError", "gap"),
    "NoDays": ("ArchiveError", ""),
    "Crossing": ("ArchiveError", "first second"),
    "InvalidMeeting": ("ArchiveError", "at"),
    "InvalidSource": ("ArchiveError", "name"),
    "NeverHeard": ("ArchiveError", "name"),
    "InvalidRule": ("ArchiveError", "at"),
    "NotSorted": ("ArchiveError", "first second"),
    "InvalidFrame": ("ArchiveError", "part"),
    "InvalidPast": ("ArchiveError", "variable"),
    "InvalidLot": ("ArchiveError", "variable"),
    "UnlikeFrames": ("ArchiveError", ""),
    "EmptyClause": ("ArchiveError", ""),
    "NoQuestion": ("ArchiveError", ""),
    "NothingToUndo": ("ArchiveError", ""),
    "NothingToRedo": ("ArchiveError", ""),
}
GROUPS = ("UnknownError", "TextError", "ImpossibleError")


class ErrorsTest(Case):
    def test_the_module_has_these_errors_and_no_others(self):
        found = [name for name in vars(errors) if not name.startswith("_")]
        self.assertEqual(sorted(found), sorted(TREE))

    def test_each_error_stands_directly_below_its_class(self):
        for name, (base, _) in TREE.items():
            bases = [above.__name__ for above in getattr(errors, name).__bases__]
            self.assertEqual(bases, [base], name)

    def test_each_error_is_below_no_other_group(self):
        for name, (base, _) in TREE.items():
            for group in GROUPS:
                below = issubclass(getattr(errors, name), getattr(errors, group))
                self.assertEqual(below, group in (base, name), (name, group))

    def test_each_error_is_an_archive_error_and_a_value_error(self):
        for name in TREE:
            self.assertTrue(issubclass(getattr(errors, name), errors.ArchiveError))
            self.assertTrue(issubclass(getattr(errors, name), ValueError))

    def test_attributes_hold_the_arguments_by_position_and_by_name(self):
        for name, (_, words) in TREE.items():
            if words is None:
                continue
            attributes = {word: (word, 7) for word in words.split()}
            by_place = getattr(errors, name)(*attributes.values())
            by_name = getattr(errors, name)(**attributes)
            self.assertEqual(vars(by_place), attributes)
            self.assertEqual(vars(by_name), attributes)

    def test_errors_take_no_more_and_no_fewer_arguments(self):
        for name, (_, words) in TREE.items():
            if words:
                many = len(words.split())
                for wrong in (many - 1, many + 1):
                    with self.assertRaises(TypeError, msg=name):
                        getattr(errors, name)(*range(wrong))


if __name__ == "__main__":
    unittest.main()
