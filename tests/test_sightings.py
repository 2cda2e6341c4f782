import itertools
import unittest

from fittingpasts.errors import NoStay, OutOfRange
from fittingpasts.sightings import (
    StayBar, fitting_stays, greatest_stays, judge_bar, least_stays, meeting_pairs, stay_bar, stay_bounds, surely_on,
)
from fittingpasts.stays import Stay
from tests.helpers import BIG, Case, Numbers


def all_fitting(notes, last):
    """All fitting stays, tried one by one, ascending."""
    return [
        Stay(come, go) for come in range(last + 1) for go in range(come, last + 1)
        if all((come <= day <= go) == seen for day, seen in notes)
    ]


def samples():
    """Pairs of notes and a last day from 0 to 9."""
    numbers = Numbers(17)
    rows = []
    for last in range(10):
        rows += [([], last), ([(0, True)], last), ([(last, False)], last), ([(0, True), (0, False)], last)]
        rows.append(([(day, False) for day in range(last, -1, -1)], last))
        for _ in range(60):
            many = numbers.between(1, 4)
            rows.append(([(numbers.below(last + 1), numbers.below(3) > 0) for _ in range(many)], last))
            rows.append(([(numbers.below(last + 1), False) for _ in range(2 * many)], last))
    return rows


SAMPLES = samples()


def words(stays):
    return [str(stay) for stay in stays]


class FittingTest(Case):
    def test_example_of_the_interface(self):
        notes = [(2, True), (4, False)]
        self.assertEqual([stay_bounds(notes, 5), surely_on(notes, 5, 3)], [(0, 2, 2, 3), "open"])

    def test_there_are_samples_of_both_kinds(self):
        fitting = [row for row in SAMPLES if all_fitting(*row)]
        self.assertGreater(len(fitting), 200)
        self.assertGreater(len(SAMPLES) - len(fitting), 200)

    def test_fitting_stays(self):
        for notes, last in SAMPLES:
            self.assertEqual(list(fitting_stays(notes, last)), all_fitting(notes, last))
            self.assertEqual(list(fitting_stays(tuple(notes), last=last)), all_fitting(notes, last))

    def test_least_and_greatest_stays(self):
        for notes, last in SAMPLES:
            stays = all_fitting(notes, last)
            least = [a for a in stays if not any(b.within(a) and b != a for b in stays)]
            greatest = [a for a in stays if not any(a.within(b) and b != a for b in stays)]
            self.assertEqual(words(least_stays(notes, last)), words(least))
            self.assertEqual(words(greatest_stays(notes, last)), words(greatest))

    def test_bounds(self):
        for notes, last in SAMPLES:
            stays = all_fitting(notes, last)
            if stays:
                comings = [stay.come for stay in stays]
                goings = [stay.go for stay in stays]
                expected = (min(comings), max(comings), min(goings), max(goings))
                self.assertEqual(stay_bounds(notes, last), expected)
            else:
                bar = self.caught(NoStay, lambda: stay_bounds(notes, last)).bar
                self.assertIsInstance(bar, StayBar)
                self.assertIs(judge_bar(notes, last, bar), True)

    def test_surely_on(self):
        for notes, last in SAMPLES:
            stays = all_fitting(notes, last)
            for day in range(-1, last + 2):
                having = [stay for stay in stays if day in stay]
                word = "open"
                if not stays:
                    word = "void"
                elif len(having) == len(stays):
                    word = "sure"
                elif not having:
                    word = "never"
                self.assertEqual(surely_on(notes, last, day), word)
        self.assertEqual(surely_on([], 5, BIG), "never")
        self.assertEqual(surely_on([], 5, -BIG), "never")
        self.assertEqual(surely_on([], 0, 0), "sure")

    def test_last_of_sixty(self):
        self.assertEqual(len(list(fitting_stays([], 60))), 61 * 62 // 2)
        self.assertEqual(greatest_stays([(30, False)], 60), [Stay(0, 29), Stay(31, 60)])
        self.assertEqual(len(least_stays([(30, False)], 60)), 60)
        self.assertEqual(stay_bounds([(60, True), (0, False)], 60), (1, 60, 60, 60))
        bar = stay_bar([(day, False) for day in range(61)], 60)
        self.assertEqual((bar.kind, bar.indexes), ("shut", tuple(range(61))))

    def test_notes_that_say_the_same_twice_or_the_contrary(self):
        self.assertEqual(list(fitting_stays([(1, True), (1, True)], 1)), [Stay(0, 1), Stay(1, 1)])
        self.assertEqual(greatest_stays([(1, False), (1, False)], 2), [Stay(0, 0), Stay(2, 2)])
        contrary = [(0, True), (1, False), (1, True)]
        self.assertEqual(list(fitting_stays(contrary, 3)), [])
        self.assertTrue(judge_bar(contrary, 3, stay_bar(contrary, 3)))

    def test_arguments_are_not_changed_and_lists_are_new(self):
        notes = [(2, True), (4, False)]
        for function in (least_stays, greatest_stays):
            before = words(function(notes, 5))
            function(notes, 5).clear()
            self.assertEqual(words(function(notes, 5)), before)
        list(fitting_stays(notes, 5))
        stay_bar(notes, 5)
        self.assertEqual(notes, [(2, True), (4, False)])


class DaysTest(Case):
    def test_the_first_day_that_lies_outside(self):
        for notes, day in (
            ([(0, True), (6, False), (-1, True)], 6), ([(-1, False), (6, True)], -1), ([(BIG, True)], BIG),
        ):
            bar = StayBar("parted", (0, 0, 0))
            for call in (
                lambda: list(fitting_stays(notes, 5)), lambda: least_stays(notes, 5),
                lambda: greatest_stays(notes, 5), lambda: stay_bounds(notes, 5), lambda: stay_bar(notes, 5),
                lambda: judge_bar(notes, 5, bar), lambda: judge_bar(notes, 5, StayBar("other", ())),
                lambda: surely_on(notes, 5, 0), lambda: meeting_pairs(notes, [], 5),
                lambda: meeting_pairs([], notes, 5), lambda: meeting_pairs(notes, [(-7, True)], 5),
                lambda: meeting_pairs([(1, True), (1, False)], notes, 5),
            ):
                self.assert_fails(OutOfRange(day), call)

    def test_fitting_stays_raises_when_it_is_iterated(self):
        stays = fitting_stays([(6, True)], 5)
        self.assert_fails(OutOfRange(6), lambda: next(stays))


class BarTest(Case):
    def test_right_bars_exactly_where_no_stay_fits(self):
        for notes, last in SAMPLES:
            bar = stay_bar(notes, last)
            if all_fitting(notes, last):
                self.assertIsNone(bar)
            else:
                self.assertIs(judge_bar(notes, last, bar), True)

    def test_parted_bars_by_the_words(self):
        notes = [(3, True), (1, False), (0, True), (2, False), (1, True), (3, True)]
        for indexes in itertools.product(range(-2, 8), repeat=3):
            right = all(0 <= at < 6 for at in indexes)
            if right:
                (low, first), (day, middle), (high, third) = [notes[at] for at in indexes]
                right = first and third and not middle and low <= day <= high
            self.assertIs(judge_bar(notes, 3, StayBar("parted", indexes)), right)
            self.assertIs(judge_bar(notes, 3, StayBar("other", indexes)), False)
            self.assertIs(judge_bar(notes, 3, StayBar("shut", indexes)), False)

    def test_the_first_and_the_third_index_may_be_the_same(self):
        self.assertIs(judge_bar([(1, True), (1, False)], 3, StayBar("parted", (0, 1, 0))), True)

    def test_shut_bars_by_the_words(self):
        notes = [(1, False), (0, False), (2, False), (1, False), (0, True)]
        for indexes in itertools.product(range(-1, 6), repeat=3):
            right = indexes in ((1, 0, 2), (1, 3, 2))
            self.assertIs(judge_bar(notes, 2, StayBar("shut", indexes)), right)

    def test_spoilt_bars(self):
        parted = ([(0, True), (1, False), (2, True)], 2)
        self.assertTrue(judge_bar(*parted, StayBar("parted", [0, 1, 2])))
        for kind, indexes in (
            ("shut", (0, 1, 2)), ("", (0, 1, 2)), ("Parted", (0, 1, 2)), ("parted", (0, 1)), ("parted", (0, 1, 2, 2)),
            ("parted", ()), ("parted", (0, 0, 2)), ("parted", (1, 1, 2)), ("parted", (0, 1, -1)),
            ("parted", (0, 1, 3)), ("parted", (2, 1, 0)), ("parted", (-3, 1, 2)), ("parted", (0, BIG, 2)),
        ):
            self.assertIs(judge_bar(*parted, StayBar(kind, indexes)), False)
        shut = ([(0, False), (1, False), (2, False)], 2)
        self.assertTrue(judge_bar(*shut, StayBar("shut", [0, 1, 2])))
        for kind, indexes in (
            ("parted", (0, 1, 2)), ("shut", (0, 1)), ("shut", (0, 1, 2, 2)), ("shut", (0, 1, 1)), ("shut", (0, 0, 2)),
            ("shut", (0, 1, -1)), ("shut", (0, 1, 3)), ("shut", (1, 0, 2)), ("shut", ()), ("other", (0, 1, 2)),
        ):
            self.assertIs(judge_bar(*shut, StayBar(kind, indexes)), False)

    def test_indexes_are_kept_as_a_tuple(self):
        indexes = [0, 1, 2]
        bar = StayBar(kind="shut", indexes=indexes)
        indexes.clear()
        self.assertEqual((bar.kind, bar.indexes), ("shut", (0, 1, 2)))


class MeetingTest(Case):
    def test_pairs(self):
        rows = [row for row in SAMPLES if row[1] in (3, 6)]
        for (notes, last), (other, _) in itertools.product(rows[::2], rows[1::3]):
            if not all(day <= last for day, _ in other):
                continue
            apart = [
                (a, b) for a in least_stays(notes, last) for b in least_stays(other, last) if not a.meets(b)
            ]
            together = [
                (a, b) for a in greatest_stays(notes, last) for b in greatest_stays(other, last) if a.meets(b)
            ]
            expected = (apart[0] if apart else None, together[0] if together else None)
            self.assertEqual(meeting_pairs(notes, other, last), expected)

    def test_what_the_pairs_say(self):
        rows = [row for row in SAMPLES if row[1] == 4]
        for (notes, last), (other, _) in itertools.product(rows, rows[:40]):
            meets = [a.meets(b) for a in all_fitting(notes, last) for b in all_fitting(other, last)]
            apart, together = meeting_pairs(notes, other, last)
            self.assertEqual(apart is not None, False in meets)
            self.assertEqual(together is not None, True in meets)


if __name__ == "__main__":
    unittest.main()
