import itertools
import unittest

from fittingpasts import cycles
from fittingpasts.cycles import all_cycles, days_at, is_whole, moved, next_day, place_on, turns, whole_outers
from fittingpasts.errors import OutOfRange
from fittingpasts.residues import Residue
from tests.helpers import BIG, Case

SMALL = [(length, shift) for length in range(1, 7) for shift in range(length)]


class CyclesTest(Case):
    def test_place_on(self):
        for length, shift in SMALL:
            places = list(range(length)) * 3
            for day in range(-length, length):
                self.assertEqual(place_on((length, shift), day), places[day + shift + length])
        self.assertEqual(place_on((7, 3), 7 * BIG - 4), 6)
        self.assertEqual(place_on(cycle=(7, 3), day=-3), 0)

    def test_days_at(self):
        for cycle in SMALL:
            for place in range(cycle[0]):
                days = days_at(cycle, place)
                self.assertIsInstance(days, Residue)
                self.assertEqual(days.length, cycle[0])
                for day in range(-2 * cycle[0], 2 * cycle[0]):
                    self.assertEqual(day in days, place_on(cycle, day) == place)

    def test_days_at_for_places_that_the_cycle_does_not_have(self):
        for cycle in SMALL + [(60, 59)]:
            for place in (-1, cycle[0], BIG, -BIG):
                self.assert_fails(OutOfRange(place), lambda: days_at(cycle, place))

    def test_all_cycles(self):
        self.assertEqual(all_cycles(2, 3), [(2, 0), (2, 1), (3, 0), (3, 1), (3, 2)])
        self.assertEqual(all_cycles(1, 1), [(1, 0)])
        self.assertEqual(all_cycles(5, 4), [])
        self.assertEqual(all_cycles(60, 1), [])
        self.assertEqual(len(all_cycles(1, 60)), 60 * 61 // 2)
        self.assertEqual(all_cycles(1, 60), sorted(all_cycles(1, 60)))

    def test_moved(self):
        for cycle in SMALL:
            for days in (-8, -1, 0, 1, 5, BIG, -BIG):
                shown = moved(cycle, days)
                self.assertTrue(0 <= shown[1] < shown[0])
                self.assertIsInstance(shown, tuple)
                for day in range(-7, 8):
                    self.assertEqual(place_on(shown, day + days), place_on(cycle, day))

    def test_turns(self):
        for cycle in SMALL:
            for first in range(-8, 9):
                for last in range(first - 2, first + 14):
                    walked = [day for day in range(first, last + 1) if place_on(cycle, day) == 0]
                    self.assertEqual(turns(cycle, first, last), len(walked))
        self.assertEqual(turns((7, 3), 1, BIG), (BIG - 4) // 7 + 1)
        self.assertEqual(turns((1, 0), 1, BIG), BIG)
        self.assertEqual(turns((7, 3), BIG, -BIG), 0)

    def test_is_whole_against_two_periods(self):
        for inner, outer in itertools.product(SMALL, SMALL):
            days = range(2 * inner[0] * outer[0])
            starts = all(place_on(inner, day) == 0 for day in days if place_on(outer, day) == 0)
            self.assertIs(is_whole(inner, outer), starts and outer[0] % inner[0] == 0)

    def test_whole_outers(self):
        for inner in SMALL:
            for least, most in ((1, 12), (5, 5), (6, 3), (60, 60)):
                expected = [outer for outer in all_cycles(least, most) if is_whole(inner, outer)]
                self.assertEqual(whole_outers(inner, least, most), expected)
        self.assertEqual(whole_outers((3, 1), 1, 6), [(3, 1), (6, 1), (6, 4)])


class NextDayTest(Case):
    def test_example_of_the_interface(self):
        self.assertEqual(next_day([(3, 0), (4, 1)], [2, 0], 5), 11)

    def test_against_a_walk(self):
        for first, second in itertools.product(SMALL, SMALL):
            for places in itertools.product(range(first[0]), range(second[0])):
                for start in (-13, 0, 4):
                    walk = range(start, start + 2 * first[0] * second[0])
                    shown = [x for x in walk if (place_on(first, x), place_on(second, x)) == places]
                    expected = shown[0] if shown else None
                    self.assertEqual(next_day([first, second], list(places), start), expected)
                    self.assertEqual(next_day((first, second), places, start), expected)

    def test_without_cycles_it_is_the_start(self):
        for start in (0, -5, BIG, -BIG):
            self.assertEqual(next_day([], [], start), start)
            self.assertEqual(next_day((), (), start), start)

    def test_starts_far_away(self):
        self.assertEqual(next_day([(3, 0), (4, 1)], [2, 0], 12 * BIG), 12 * BIG + 11)
        self.assertEqual(next_day([(3, 0), (4, 1)], [2, 0], -12 * BIG), -12 * BIG + 11)
        many = [(59, 1), (58, 2), (57, 3), (55, 4), (53, 5), (49, 6), (47, 7)]
        day = next_day(many, [0] * 7, BIG)
        self.assertTrue(day >= BIG)
        self.assertEqual([place_on(cycle, day) for cycle in many], [0] * 7)

    def test_places_that_no_day_shows_together(self):
        self.assertIsNone(next_day([(2, 0), (4, 0)], [0, 1], 0))
        self.assertIsNone(next_day([(6, 0), (5, 0), (10, 0)], [0, 0, 5], 0))

    def test_wrong_places(self):
        self.assert_fails(OutOfRange(4), lambda: next_day([(3, 0), (4, 0)], [1, 4], 0))
        self.assert_fails(OutOfRange(-1), lambda: next_day([(3, 0), (4, 0)], [-1, 4], 0))
        self.assert_fails(OutOfRange(9), lambda: next_day([(3, 0), (4, 0), (5, 0)], [1, 9, -1], 0))

    def test_a_wrong_place_where_no_day_shows_the_others(self):
        clash = [(2, 0), (4, 0), (3, 0), (5, 0)]
        self.assert_fails(OutOfRange(3), lambda: next_day(clash, [0, 1, 3, 0], 0))
        self.assert_fails(OutOfRange(7), lambda: next_day(clash, [0, 1, 2, 7], 0))
        self.assert_fails(OutOfRange(3), lambda: next_day(clash, [0, 1, 3, 7], 0))

    def test_arguments_are_not_changed_and_lists_are_new(self):
        given, places = [(3, 0), (4, 1)], [2, 0]
        next_day(given, places, 5)
        self.assertEqual((given, places), ([(3, 0), (4, 1)], [2, 0]))
        for function, arguments in ((all_cycles, (1, 3)), (whole_outers, ((1, 0), 1, 3))):
            before = function(*arguments)
            before.append("changed")
            self.assertNotEqual(before, function(*arguments))

    def test_functions_are_defined_here(self):
        for name in ("place_on", "days_at", "all_cycles", "moved", "turns", "is_whole", "whole_outers", "next_day"):
            self.assertEqual(getattr(cycles, name).__module__, "fittingpasts.cycles")


if __name__ == "__main__":
    unittest.main()
