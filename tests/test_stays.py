import itertools
import unittest

from fittingpasts.errors import EmptyStay, NoCommonDay, NoDays
from fittingpasts.stays import Stay
from tests.helpers import BIG, Case

SMALL = [Stay(come, go) for come in range(-2, 5) for go in range(come, 5)]
WINDOW = range(-9, 12)


def days_of(stay):
    return set(range(stay.come, stay.go + 1))


class StayTest(Case):
    def test_making(self):
        stay = Stay(-3, 7)
        self.assertEqual((stay.come, stay.go, stay.width), (-3, 7, 11))
        self.assertEqual(Stay(go=4, come=4).width, 1)
        self.assertEqual(Stay(-BIG, BIG).width, 2 * BIG + 1)
        self.assert_fails(EmptyStay(5, 4), lambda: Stay(5, 4))
        self.assert_fails(EmptyStay(BIG, -BIG), lambda: Stay(BIG, -BIG))

    def test_example_of_the_interface(self):
        parts = Stay(1, 6).parts_without(Stay(3, 4))
        found = [str(parts[0]), str(parts[1]), str(Stay(2, 5) | Stay(7, 8)), Stay(2, 5).width]
        self.assertEqual(found, ["1..2", "5..6", "2..8", 4])

    def test_text(self):
        self.assertEqual([str(Stay(3, 7)), str(Stay(-3, 7)), str(Stay(-3, -3))], ["3..7", "-3..7", "-3..-3"])

    def test_equality(self):
        for first, second in itertools.product(SMALL, SMALL):
            self.assertEqual(first == second, days_of(first) == days_of(second))
        self.assertFalse(Stay(1, 2) == (1, 2))

    def test_in(self):
        for stay in SMALL:
            self.assertEqual([day for day in WINDOW if day in stay], sorted(days_of(stay)))
        self.assertIn(BIG - 1, Stay(-BIG, BIG))
        self.assertNotIn(BIG + 1, Stay(-BIG, BIG))

    def test_plus_and_minus(self):
        for many in (-3, 0, 2, BIG, -BIG):
            self.assertEqual(Stay(-1, 4) + many, Stay(-1 + many, 4 + many))
            self.assertEqual(Stay(-1, 4) - many, Stay(-1 - many, 4 - many))

    def test_two_stays_against_their_days(self):
        for first, second in itertools.product(SMALL, SMALL):
            days, others = days_of(first), days_of(second)
            self.assertIs(first.meets(second), bool(days & others))
            self.assertIs(first.within(second), days <= others)
            crossing = bool(days & others) and not days <= others and not others <= days
            self.assertIs(first.crosses(second), crossing)
            around = first | second
            self.assertEqual((around.come, around.go), (min(days | others), max(days | others)))
            if days & others:
                self.assertEqual(days_of(first & second), days & others)
            else:
                gap = max(min(days), min(others)) - min(max(days), max(others))
                self.assert_fails(NoCommonDay(gap), lambda: first & second)

    def test_no_common_day_in_both_orders(self):
        for first, second, gap in ((Stay(1, 3), Stay(4, 6), 1), (Stay(-9, -5), Stay(2, 2), 7)):
            self.assert_fails(NoCommonDay(gap), lambda: first & second)
            self.assert_fails(NoCommonDay(gap), lambda: second & first)
        self.assert_fails(NoCommonDay(2 * BIG - 2), lambda: Stay(BIG, BIG + 1) & Stay(-BIG, 2 - BIG))

    def test_parts_without(self):
        for first, second in itertools.product(SMALL, SMALL):
            parts = first.parts_without(second)
            left = days_of(first) - days_of(second)
            self.assertEqual(sorted(day for part in parts for day in days_of(part)), sorted(left))
            self.assertLessEqual(len(parts), 2)
            for low, high in zip(parts, parts[1:]):
                self.assertLess(low.go + 1, high.come)
        self.assertEqual(Stay(3, 4).parts_without(Stay(3, 4)), [])
        self.assertEqual(Stay(3, 4).parts_without(Stay(5, 6)), [Stay(3, 4)])
        self.assertEqual(Stay(3, 6).parts_without(Stay(-BIG, 4)), [Stay(5, 6)])
        self.assertEqual(Stay(-BIG, BIG).parts_without(Stay(0, 0)), [Stay(-BIG, -1), Stay(1, BIG)])

    def test_around(self):
        self.assertEqual(Stay.around([4]), Stay(4, 4))
        self.assertEqual(Stay.around((4, -2, 3, 4)), Stay(-2, 4))
        self.assertEqual(Stay.around(days=[BIG, -BIG]), Stay(-BIG, BIG))
        for nothing in ([], ()):
            self.assert_fails(NoDays(), lambda: Stay.around(nothing))

    def test_operands_stay_as_they_were(self):
        first, second, days = Stay(1, 6), Stay(3, 9), [3, 1]
        results = [first & second, first | second, first + 1, first - 1, first.parts_without(second)]
        Stay.around(days)
        self.assertEqual((first, second, days, len(results)), (Stay(1, 6), Stay(3, 9), [3, 1], 5))


if __name__ == "__main__":
    unittest.main()
