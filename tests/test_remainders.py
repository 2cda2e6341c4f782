import itertools
import unittest
from math import gcd

from fittingpasts.remainders import (
    RemainderTable, common_divisor, fitting_cycles, gap_places, judge_table, possible_gaps, remainder_row,
    shut_lengths,
)
from tests.helpers import BIG, Case, Numbers

LEAST, MOST = 1, 14


def shows(cycle, sighting):
    return (sighting[0] + cycle[1]) % cycle[0] == sighting[1]


def samples():
    """Lists of sightings: none, all short ones over few days and places, and irregular longer ones."""
    single = [(day, place) for day in (-3, 0, 1, 5) for place in (0, 1, 4)]
    rows = [[]]
    for many in (1, 2, 3):
        rows += [list(row) for row in itertools.product(single, repeat=many)]
    numbers = Numbers(5)
    for _ in range(200):
        length, shift = numbers.between(2, 13), numbers.below(13)
        days = [numbers.between(-30, 30) for _ in range(numbers.between(2, 6))]
        row = [(day, (day + shift) % length) for day in days]
        if numbers.below(2):
            row.append((numbers.between(-30, 30), numbers.below(16)))
        rows.append(row)
    rows.append([(2, 1), (2, 1), (2, 1)])
    rows.append([(BIG, 3), (-BIG, 3), (BIG + 6, 3)])
    return rows


SAMPLES = samples()


def shut_pairs(row):
    """All pairs of indexes that shut the length of a row, by the words of the document."""
    pairs = []
    for first, second in itertools.product(range(len(row)), repeat=2):
        if first == second and row[first] is None:
            pairs.append((first, second))
        if first < second and None not in (row[first], row[second]) and row[first] != row[second]:
            pairs.append((first, second))
    return sorted(pairs)


class RowTest(Case):
    def test_row_against_all_shifts(self):
        for sightings in SAMPLES:
            for length in range(LEAST, MOST + 1):
                row = remainder_row(sightings, length)
                self.assertIsInstance(row, tuple)
                for sighting, demand in zip(sightings, row):
                    shifts = [shift for shift in range(length) if shows((length, shift), sighting)]
                    self.assertEqual([] if demand is None else [demand], shifts)
                self.assertEqual(len(row), len(sightings))

    def test_row_without_sightings_and_far_days(self):
        self.assertEqual(remainder_row([], 5), ())
        self.assertEqual(remainder_row([(BIG, 2), (-BIG, 2), (0, 5)], 5), (2, 2, None))
        self.assertEqual(remainder_row(((-1, 0),), 60), (1,))


class FittingTest(Case):
    def test_against_all_cycles(self):
        for sightings in SAMPLES:
            expected = [
                (length, shift) for length in range(LEAST, MOST + 1) for shift in range(length)
                if all(shows((length, shift), sighting) for sighting in sightings)
            ]
            self.assertEqual(fitting_cycles(sightings, LEAST, MOST), expected)
            self.assertEqual(fitting_cycles(tuple(sightings), LEAST, MOST), expected)

    def test_examples_of_the_interface(self):
        self.assertEqual(fitting_cycles([(0, 1), (5, 0)], 2, 6), [(2, 1), (3, 1), (6, 1)])
        self.assertEqual(common_divisor([(0, 1), (5, 0)]), 6)
        self.assertEqual(shut_lengths([(0, 1), (5, 0)], 1, 6).rows, ((1, 0, 0), (4, 0, 1), (5, 0, 1)))

    def test_no_sightings_and_no_lengths(self):
        self.assertEqual(fitting_cycles([], 2, 3), [(2, 0), (2, 1), (3, 0), (3, 1), (3, 2)])
        self.assertEqual(fitting_cycles([], 3, 2), [])
        self.assertEqual(fitting_cycles([(0, 0)], 3, 2), [])

    def test_common_divisor(self):
        for sightings in SAMPLES:
            divisor = 0
            for day, place in sightings:
                divisor = gcd(divisor, (place - day) - (sightings[0][1] - sightings[0][0]))
            self.assertEqual(common_divisor(sightings), divisor)
        for none in ([], [(4, 2)], [(4, 2), (4, 2)], [(4, 2), (5, 3)], [(BIG, 0), (BIG + 3, 3)]):
            self.assertEqual(common_divisor(none), 0)
        self.assertEqual(common_divisor([(BIG, 0), (-BIG, 0)]), 2 * BIG)

    def test_open_exactly_by_places_and_divisor(self):
        for sightings in SAMPLES:
            divisor = common_divisor(sightings)
            shut = [row[0] for row in shut_lengths(sightings, LEAST, MOST).rows]
            for length in range(LEAST, MOST + 1):
                is_open = all(place < length for _, place in sightings) and divisor % length == 0
                self.assertEqual(length not in shut, is_open)


class TableTest(Case):
    def test_shut_lengths_has_the_least_pairs(self):
        for sightings in SAMPLES:
            expected = []
            for length in range(LEAST, MOST + 1):
                pairs = shut_pairs(remainder_row(sightings, length))
                if pairs:
                    expected.append((length, *pairs[0]))
            table = shut_lengths(sightings, LEAST, MOST)
            self.assertIsInstance(table, RemainderTable)
            self.assertEqual(table.rows, tuple(expected))
            self.assertIs(judge_table(sightings, LEAST, MOST, table), True)

    def test_no_rows(self):
        self.assertEqual(shut_lengths([], 1, 60).rows, ())
        self.assertEqual(shut_lengths([(0, 59)], 5, 4).rows, ())
        self.assertTrue(judge_table([(0, 59)], 5, 4, RemainderTable(())))
        self.assertTrue(judge_table([], 1, 60, RemainderTable([])))
        self.assertFalse(judge_table([], 1, 60, RemainderTable([(1, 0, 0)])))

    def test_other_indexes_that_fit_are_right(self):
        sightings = [(0, 1), (5, 0), (1, 9), (3, 2)]
        for at, row in enumerate(shut_lengths(sightings, 1, 12).rows):
            rows = list(shut_lengths(sightings, 1, 12).rows)
            right = shut_pairs(remainder_row(sightings, row[0]))
            for pair in itertools.product(range(-2, 6), repeat=2):
                rows[at] = (row[0], *pair)
                self.assertIs(judge_table(sightings, 1, 12, RemainderTable(rows)), pair in right)

    def test_spoilt_tables(self):
        sightings = [(0, 1), (5, 0), (7, 3)]
        rows = list(shut_lengths(sightings, 1, 9).rows)
        self.assertGreater(len(rows), 3)
        for at in range(len(rows)):
            without = rows[:at] + rows[at + 1:]
            doubled = rows[:at] + [rows[at]] + rows[at:]
            swapped = rows[1:at + 1] + rows[:1] + rows[at + 1:]
            self.assertFalse(judge_table(sightings, 1, 9, RemainderTable(without)))
            self.assertFalse(judge_table(sightings, 1, 9, RemainderTable(doubled)))
            self.assertEqual(judge_table(sightings, 1, 9, RemainderTable(swapped)), at == 0)
            for length in (0, -1, 10, BIG):
                other = rows[:at] + [(length, *rows[at][1:])] + rows[at + 1:]
                self.assertFalse(judge_table(sightings, 1, 9, RemainderTable(other)))

    def test_a_row_for_an_open_length_is_wrong(self):
        rows = [(1, 0, 0), (2, 0, 1), (4, 0, 1), (5, 0, 1)]
        self.assertFalse(judge_table([(0, 1), (5, 0)], 1, 6, RemainderTable(rows)))

    def test_rows_are_kept_as_a_tuple(self):
        rows = [(1, 0, 0)]
        table = RemainderTable(rows)
        rows.append((2, 0, 0))
        self.assertEqual(table.rows, ((1, 0, 0),))
        self.assertEqual(RemainderTable(rows=rows).rows, ((1, 0, 0), (2, 0, 0)))
        self.assertEqual(RemainderTable(([1, 0, 0],)).rows, ((1, 0, 0),))


class GapTest(Case):
    def test_gap_places_against_all_cycles(self):
        for place in (0, 1, 4, 9, 20):
            for gap in (-17, -1, 0, 1, 6, 25):
                for least, most in ((1, 10), (5, 5), (6, 3)):
                    shown = set()
                    for length in range(least, most + 1):
                        for shift in range(length):
                            for day in range(length):
                                if shows((length, shift), (day, place)):
                                    shown.add((day + gap + shift) % length)
                    self.assertEqual(gap_places(place, gap, least, most), sorted(shown))

    def test_gap_places_of_18_digits(self):
        self.assertEqual(gap_places(1, BIG, 10, 10), [1])
        self.assertEqual(gap_places(1, -BIG - 2, 10, 10), [9])
        self.assertEqual(gap_places(BIG, 1, 1, 60), [])

    def test_possible_gaps(self):
        for place, other in itertools.product((0, 1, 3, 7), (0, 2, 3, 11)):
            for least, most in ((1, 9), (4, 4), (5, 2)):
                for span in (-1, 0, 1, 17):
                    gaps = [gap for gap in range(span + 1) if other in gap_places(place, gap, least, most)]
                    self.assertEqual(possible_gaps(place, other, least, most, span), gaps)

    def test_a_span_below_zero_has_no_gaps(self):
        self.assertEqual(possible_gaps(0, 0, 1, 60, -1), [])
        self.assertEqual(possible_gaps(0, 0, 1, 60, -BIG), [])

    def test_arguments_are_not_changed(self):
        sightings = [(0, 1), (5, 0)]
        for function in (fitting_cycles, shut_lengths):
            function(sightings, 1, 9)
        common_divisor(sightings)
        remainder_row(sightings, 4)
        self.assertEqual(sightings, [(0, 1), (5, 0)])
        first = fitting_cycles(sightings, 2, 6)
        first.clear()
        self.assertEqual(len(fitting_cycles(sightings, 2, 6)), 3)


if __name__ == "__main__":
    unittest.main()
