import itertools
import unittest
from math import gcd, lcm

from fittingpasts.errors import Disjoint, OutOfRange
from fittingpasts.residues import Residue
from tests.helpers import BIG, Case

SMALL = [Residue(place, length) for length in range(1, 9) for place in range(length)]
WINDOW = range(-60, 61)


def days_of(residue):
    """The days in the window, by the definition."""
    return [day for day in WINDOW if (day - residue.place) % residue.length == 0]


class ResidueTest(Case):
    def test_place_is_stored_as_remainder(self):
        for place, length, stored in ((9, 7, 2), (-1, 7, 6), (7, 7, 0), (5, 1, 0), (-BIG - 1, 10, 9)):
            residue = Residue(place, length)
            self.assertEqual((residue.place, residue.length), (stored, length))

    def test_length_below_one_is_out_of_range(self):
        for length in (0, -1, -BIG):
            self.assert_fails(OutOfRange(length), lambda: Residue(3, length))

    def test_arguments_by_name(self):
        self.assertEqual(Residue(length=4, place=6), Residue(2, 4))

    def test_equal_by_place_and_length(self):
        self.assertEqual(Residue(9, 7), Residue(-5, 7))
        self.assertNotEqual(Residue(2, 7), Residue(3, 7))
        self.assertNotEqual(Residue(2, 7), Residue(2, 14))
        self.assertFalse(Residue(2, 7) == "2 mod 7")

    def test_in(self):
        for residue in SMALL:
            for day in WINDOW:
                self.assertIs(day in residue, day % residue.length == residue.place)
        self.assertIn(-4, Residue(3, 7))
        self.assertNotIn(-3, Residue(3, 7))
        self.assertIn(7 * BIG + 3, Residue(3, 7))

    def test_plus_minus_and_negative(self):
        for residue in SMALL:
            for many in range(-9, 10):
                for day in WINDOW:
                    self.assertEqual(day + many in residue + many, day in residue)
                    self.assertEqual(day - many in residue - many, day in residue)
            for day in WINDOW:
                self.assertEqual(-day in -residue, day in residue)
        self.assertEqual(Residue(3, 7) - 4, Residue(6, 7))

    def test_text(self):
        self.assertEqual(str(Residue(3, 7)), "3 mod 7")
        self.assertEqual(str(Residue(-1, 7)), "6 mod 7")
        self.assertEqual(str(Residue(5, 1)), "0 mod 1")

    def test_examples_of_the_interface(self):
        self.assertEqual(str(Residue(2, 4) & Residue(4, 6)), "10 mod 12")
        self.assert_fails(Disjoint(2), lambda: Residue(2, 4) & Residue(3, 6))

    def test_and_against_the_days(self):
        for first, second in itertools.product(SMALL, SMALL):
            common = [day for day in days_of(first) if day in days_of(second)]
            divisor = gcd(first.length, second.length)
            if common:
                both = first & second
                self.assertEqual(days_of(both), common)
                self.assertEqual(both.length, lcm(first.length, second.length))
                self.assertEqual(second & first, both)
            else:
                self.assert_fails(Disjoint(divisor), lambda: first & second)
                self.assert_fails(Disjoint(divisor), lambda: second & first)

    def test_and_with_numbers_of_18_digits(self):
        first, second = Residue(5, BIG), Residue(-8, BIG + 1)
        both = first & second
        self.assertEqual(both.length, BIG * (BIG + 1))
        self.assertEqual((both.place % BIG, both.place % (BIG + 1)), (5, BIG + 1 - 8))
        self.assertEqual(second & first, both)
        self.assert_fails(Disjoint(BIG), lambda: Residue(0, BIG) & Residue(1, 3 * BIG))

    def test_first_from_and_last_until(self):
        for residue in SMALL:
            for day in range(-20, 21):
                self.assertEqual(residue.first_from(day), min(x for x in days_of(residue) if x >= day))
                self.assertEqual(residue.last_until(day), max(x for x in days_of(residue) if x <= day))
        self.assertEqual(Residue(3, 7).first_from(7 * BIG - 3), 7 * BIG + 3)
        self.assertEqual(Residue(3, 7).last_until(-7 * BIG + 2), -7 * BIG - 4)

    def test_count_in_and_members(self):
        for residue in SMALL:
            for first in range(-12, 13):
                for last in range(first - 3, first + 18):
                    days = [day for day in days_of(residue) if first <= day <= last]
                    self.assertEqual(residue.count_in(first, last), len(days))
                    self.assertEqual(list(residue.members(first, last)), days)

    def test_empty_ranges(self):
        self.assertEqual(Residue(3, 7).count_in(4, 3), 0)
        self.assertEqual(Residue(3, 7).count_in(4, 9), 0)
        self.assertEqual(Residue(3, 7).count_in(BIG, -BIG), 0)
        self.assertEqual(list(Residue(0, 1).members(1, 0)), [])
        self.assertEqual(list(Residue(3, 7).members(BIG, -BIG)), [])

    def test_count_in_does_not_go_through_the_days(self):
        self.assertEqual(Residue(3, 7).count_in(-7 * BIG, 7 * BIG - 1), 2 * BIG)
        self.assertEqual(Residue(0, 1).count_in(1, BIG), BIG)

    def test_members_come_as_soon_as_asked_for(self):
        members = Residue(3, 7).members(0, BIG)
        self.assertEqual([next(members), next(members), next(members)], [3, 10, 17])
        again = Residue(3, 7).members(first=0, last=BIG)
        self.assertEqual([next(again), next(members)], [3, 24])

    def test_part_of(self):
        for first, second in itertools.product(SMALL, SMALL):
            inside = all(day in second for day in days_of(first))
            self.assertIs(first.part_of(second), inside)
        self.assertFalse(Residue(3, 7).part_of(Residue(3, 14)))

    def test_scaled(self):
        for residue in SMALL:
            for factor in (1, 2, 3, 5):
                days = [factor * day for day in range(-200, 201) if day in residue]
                self.assertEqual(days_of(residue.scaled(factor)), [day for day in days if day in WINDOW])
        self.assertEqual(Residue(3, 7).scaled(BIG), Residue(3 * BIG, 7 * BIG))
        for factor in (0, -1, -BIG):
            self.assert_fails(OutOfRange(factor), lambda: Residue(3, 7).scaled(factor))

    def test_every(self):
        every = Residue.every()
        self.assertEqual((every.place, every.length), (0, 1))
        self.assertTrue(all(day in every for day in WINDOW))

    def test_meet(self):
        self.assertEqual(Residue.meet(), Residue(0, 1))
        self.assertEqual(Residue.meet(Residue(3, 7)), Residue(3, 7))
        self.assertEqual(Residue.meet(Residue(1, 2), Residue(2, 3), Residue(3, 5)), Residue(23, 30))
        self.assertEqual(Residue.meet(Residue(3, 5), Residue(2, 3), Residue(1, 2)), Residue(23, 30))

    def test_meet_raises_the_first_disjoint(self):
        rows = (Residue(0, 4), Residue(0, 9), Residue(3, 6), Residue(1, 9))
        self.assert_fails(Disjoint(6), lambda: Residue.meet(*rows))
        self.assert_fails(Disjoint(9), lambda: Residue.meet(rows[0], rows[1], rows[3], rows[2]))
        self.assert_fails(Disjoint(3), lambda: Residue.meet(*rows[::-1]))

    def test_operands_stay_as_they_were(self):
        first, second = Residue(2, 4), Residue(4, 6)
        results = [first & second, first + 5, first - 5, -first, first.scaled(3), Residue.meet(first, second)]
        self.assertEqual((first.place, first.length, second.place, second.length), (2, 4, 4, 6))
        self.assertEqual(len(results), 6)


if __name__ == "__main__":
    unittest.main()
