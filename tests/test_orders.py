import itertools
import unittest
from math import factorial

from fittingpasts.errors import Duplicate, OutOfRange, RingFound, TooMany, UnfitLine, UnknownName, UnlikeNames
from fittingpasts.orders import Order
from tests.helpers import Case, Numbers

TEN = tuple("abcdefghij")


def closure(pairs):
    """All pairs that follow, by adding them until nothing is new."""
    found = set(pairs)
    while True:
        more = {(a, d) for a, b in found for c, d in found if b == c} - found
        if not more:
            return found
        found |= more


def samples():
    """Orders on up to 5 names, with the pairs that are given for them."""
    numbers = Numbers(3)
    rows = [((), ()), (("a",), ()), (("b", "a"), ()), (("b", "a"), (("a", "b"),))]
    for _ in range(120):
        names = tuple("cabed")[:numbers.between(2, 5)]
        line = sorted(names, key=lambda name: numbers.below(1000))
        pairs = []
        for _ in range(numbers.between(0, 5)):
            low, high = sorted((numbers.below(len(names)), numbers.below(len(names))))
            if low < high:
                pairs.append((line[low], line[high]))
        rows.append((names, tuple(pairs)))
    return rows


SAMPLES = samples()


def all_lines(names, pairs):
    """All arrangements that keep the pairs; permutations come ascending by the indexes."""
    rows = itertools.permutations(names)
    return [row for row in rows if all(row.index(a) < row.index(b) for a, b in pairs)]


class MakingTest(Case):
    def test_the_smallest_set_of_pairs(self):
        for names, pairs in SAMPLES:
            order = Order(names, pairs)
            expected = [(a, b) for a in names for b in names if (a, b) in closure(pairs)]
            self.assertEqual(order.names, names)
            self.assertEqual(order.pairs(), expected)
            self.assertEqual(Order(list(names), list(pairs)), order)

    def test_names_and_pairs_are_copied(self):
        names, pairs = ["a", "b", "c"], [("a", "b")]
        order = Order(names, pairs)
        names.append("d")
        pairs.append(("b", "c"))
        self.assertEqual(order.names, ("a", "b", "c"))
        self.assertEqual(order.pairs(), [("a", "b")])
        self.assertEqual(Order(names=(), pairs=()).pairs(), [])

    def test_ten_and_eleven_names(self):
        self.assertEqual(len(Order(TEN, list(zip(TEN, TEN[1:]))).pairs()), 45)
        self.assert_fails(TooMany(10), lambda: Order((*TEN, "k"), []))
        self.assert_fails(TooMany(10), lambda: Order(("a",) * 11, [("x", "x")]))

    def test_which_error_comes_first(self):
        self.assert_fails(Duplicate("b"), lambda: Order(("a", "b", "b", "a"), [("x", "y"), ("a", "a")]))
        self.assert_fails(UnknownName("x"), lambda: Order(("a", "b"), [("a", "a"), ("x", "y")]))
        self.assert_fails(UnknownName("y"), lambda: Order(("a", "b"), [("a", "y"), ("x", "b")]))
        self.assert_fails(UnknownName("x"), lambda: Order(("a", "b"), [("a", "b"), ("x", "y")]))

    def test_names_may_be_any_strings(self):
        order = Order(("", "Ann Lee", "or"), [("or", "")])
        self.assertEqual(order.least_line(), ("Ann Lee", "or", ""))


class RingTest(Case):
    def check_ring(self, ring, pairs):
        self.assertIsInstance(ring, tuple)
        self.assertGreater(len(ring), 0)
        self.assertEqual(len(set(ring)), len(ring))
        for name, following in zip(ring, ring[1:] + ring[:1]):
            self.assertIn((name, following), pairs)

    def test_a_pair_of_a_name_with_itself(self):
        self.assert_fails(RingFound(("b",)), lambda: Order(("a", "b"), [("a", "b"), ("b", "b")]))

    def test_rings_through_several_pairs(self):
        for many in range(2, 11):
            pairs = [("a", name) for name in TEN[1:many]]
            pairs += list(zip(TEN, TEN[1:many])) + [(TEN[many - 1], "b")]
            self.check_ring(self.caught(RingFound, lambda: Order(TEN, pairs)).ring, pairs)

    def test_irregular_pairs(self):
        numbers = Numbers(11)
        rings = 0
        for _ in range(300):
            names = TEN[:numbers.between(1, 7)]
            pairs = [(numbers.choice(names), numbers.choice(names)) for _ in range(numbers.between(1, 7))]
            if all(a != b for a, b in closure(pairs)):
                Order(names, pairs)
                continue
            rings += 1
            self.check_ring(self.caught(RingFound, lambda: Order(names, pairs)).ring, pairs)
        self.assertGreater(rings, 50)

    def test_rings_of_two_orders(self):
        first = Order(("a", "b", "c", "d"), [("a", "b"), ("c", "d")])
        second = Order(("a", "b", "c", "d"), [("b", "c"), ("d", "a")])
        error = self.caught(RingFound, lambda: first | second)
        self.check_ring(error.ring, first.pairs() + second.pairs())
        opposite = self.caught(RingFound, lambda: Order(("a", "b"), [("a", "b")]) | Order(("a", "b"), [("b", "a")]))
        self.check_ring(opposite.ring, [("a", "b"), ("b", "a")])


class PairsTest(Case):
    def test_ahead_and_in(self):
        for names, pairs in SAMPLES:
            order = Order(names, pairs)
            for pair in itertools.product(names, repeat=2):
                self.assertIs(order.ahead(*pair), pair in closure(pairs))
                self.assertIs(pair in order, pair in closure(pairs))

    def test_unknown_names(self):
        order = Order(("a", "b"), [("a", "b")])
        self.assert_fails(UnknownName("x"), lambda: order.ahead("x", "y"))
        self.assert_fails(UnknownName("x"), lambda: order.ahead("x", "b"))
        self.assert_fails(UnknownName("y"), lambda: order.ahead(first="a", second="y"))
        for pair in (("x", "y"), ("x", "b"), ("a", "y"), ("x", "x")):
            self.assertIs(pair in order, False)

    def test_reduced_and_open_pairs(self):
        for names, pairs in SAMPLES:
            order = Order(names, pairs)
            found = closure(pairs)
            reduced = [
                (a, c) for a, c in order.pairs()
                if not any((a, b) in found and (b, c) in found for b in names)
            ]
            self.assertEqual(order.reduced(), reduced)
            self.assertEqual(Order(names, reduced), order)
            unordered = [
                (a, b) for a, b in itertools.combinations(names, 2)
                if (a, b) not in found and (b, a) not in found
            ]
            self.assertEqual(order.open_pairs(), unordered)

    def test_or_and_and(self):
        for (names, pairs), (_, more) in zip(SAMPLES, SAMPLES[1:]):
            first = Order(names, pairs)
            known = [pair for pair in more if set(pair) <= set(names)]
            second = Order(names, known)
            self.assertEqual(set((first & second).pairs()), closure(pairs) & closure(known))
            self.assertEqual(first.part_of(second), closure(pairs) <= closure(known))
            self.assertTrue((first & second).part_of(first))
            both = closure(closure(pairs) | closure(known))
            if all(a != b for a, b in both):
                self.assertEqual(set((first | second).pairs()), both)
                self.assertTrue(first.part_of(first | second))
            else:
                self.caught(RingFound, lambda: first | second)
            self.assertEqual(first, Order(names, pairs))

    def test_unlike_names(self):
        order = Order(("a", "b"), [("a", "b")])
        for names in (("b", "a"), ("a",), ("a", "b", "c"), ()):
            other = Order(names, [("b", "a")] if "b" in names else [])
            for call in (lambda: order | other, lambda: order & other, lambda: order.part_of(other)):
                self.assert_fails(UnlikeNames(), call)

    def test_equality(self):
        chain = Order(("a", "b", "c"), [("a", "b"), ("b", "c")])
        self.assertEqual(chain, Order(("a", "b", "c"), [("a", "c"), ("b", "c"), ("a", "b")]))
        self.assertNotEqual(chain, Order(("a", "b", "c"), [("a", "b")]))
        self.assertNotEqual(Order(("a", "b"), []), Order(("b", "a"), []))
        self.assertFalse(chain == [("a", "b"), ("a", "c"), ("b", "c")])

    def test_lists_are_new(self):
        order = Order(("a", "b", "c"), [("a", "b")])
        for method in (order.pairs, order.reduced, order.open_pairs):
            before = method()
            method().clear()
            self.assertEqual(method(), before)
            self.assertGreater(len(before), 0)


class LinesTest(Case):
    def test_example_of_the_interface(self):
        order = Order(("a", "b", "c"), [("a", "c")])
        self.assertEqual(list(order.lines()), [("a", "b", "c"), ("a", "c", "b"), ("b", "a", "c")])
        self.assertEqual(order.place_bounds("c"), (1, 2))
        self.assertEqual(order.number_of(("b", "a", "c")), 2)

    def test_against_all_arrangements(self):
        for names, pairs in SAMPLES:
            order = Order(names, pairs)
            expected = all_lines(names, pairs)
            self.assertEqual(list(order.lines()), expected)
            self.assertEqual(order.count_lines(), len(expected))
            self.assertEqual(order.least_line(), expected[0])
            self.assertEqual(order.greatest_line(), expected[-1])
            for name in names:
                places = [line.index(name) for line in expected]
                self.assertEqual(order.place_bounds(name), (min(places), max(places)))
            for number, line in enumerate(expected):
                self.assertEqual(order.line_at(number), line)
                self.assertEqual(order.number_of(line), number)
                self.assertEqual(order.number_of(list(line)), number)

    def test_numbers_of_no_line(self):
        for names, pairs in SAMPLES:
            order = Order(names, pairs)
            many = order.count_lines()
            order.line_at(many - 1)
            for number in (-1, many, many + 1, 10 ** 17):
                self.assert_fails(OutOfRange(number), lambda: order.line_at(number))

    def test_ten_names_without_pairs(self):
        order = Order(TEN, ())
        many = factorial(10)
        self.assertEqual(order.count_lines(), many)
        self.assertEqual(order.least_line(), TEN)
        self.assertEqual(order.greatest_line(), TEN[::-1])
        self.assertEqual(order.place_bounds("e"), (0, 9))
        self.assertEqual(order.line_at(0), TEN)
        self.assertEqual(order.line_at(number=many - 1), TEN[::-1])
        self.assertEqual(order.number_of(TEN[::-1]), many - 1)
        self.assertEqual(order.line_at(factorial(9)), ("b", "a", *TEN[2:]))
        self.assert_fails(OutOfRange(many), lambda: order.line_at(many))
        self.assertEqual(order.number_of(order.line_at(1234567)), 1234567)

    def test_the_order_without_names(self):
        order = Order((), ())
        self.assertEqual(list(order.lines()), [()])
        self.assertEqual((order.count_lines(), order.least_line(), order.greatest_line()), (1, (), ()))
        self.assertEqual((order.line_at(0), order.number_of(())), ((), 0))
        self.assert_fails(UnfitLine(0), lambda: order.number_of(("a",)))

    def test_place_bounds_of_unknown_names(self):
        self.assert_fails(UnknownName("x"), lambda: Order(("a",), ()).place_bounds("x"))

    def test_spoilt_lines(self):
        order = Order(("a", "b", "c"), [("a", "c")])
        for line, at in (
            (("x", "a", "c"), 0), (("a", "x", "x"), 1), (("a", "b", "x"), 2), (("a", "a", "c"), 1),
            (("c", "a", "b"), 0), (("b", "c", "a"), 1), ((), 0), (("a",), 1), (("a", "c"), 2), (("b", "a"), 2),
            (("a", "b", "c", "a"), 3), (("a", "b", "c", "x"), 3), (("b", "b", "x"), 1), (("b", "x"), 1),
        ):
            self.assert_fails(UnfitLine(at), lambda: order.number_of(line))

    def test_all_tuples_that_are_no_lines(self):
        order = Order(("a", "b", "c"), [("b", "a")])
        for many in range(5):
            for row in itertools.product("abcx", repeat=many):
                if row in all_lines(("a", "b", "c"), [("b", "a")]):
                    order.number_of(row)
                    continue
                at = 0
                while at < many and row[at] in "abc" and row[at] not in row[:at]:
                    if row[at] == "a" and "b" not in row[:at]:
                        break
                    at += 1
                self.assert_fails(UnfitLine(at), lambda: order.number_of(row))

    def test_two_rounds_at_the_same_time(self):
        order = Order(("a", "b", "c"), [])
        first, second = order.lines(), order.lines()
        self.assertEqual([next(first), next(first)], [("a", "b", "c"), ("a", "c", "b")])
        self.assertEqual(next(second), ("a", "b", "c"))
        self.assertEqual([next(first), next(second)], [("b", "a", "c"), ("a", "c", "b")])
        self.assertEqual((len(list(first)), len(list(second))), (3, 4))

    def test_lines_left_halfway(self):
        order = Order(TEN, ())
        for number, line in enumerate(order.lines()):
            if number == 3:
                break
        self.assertEqual(line, order.line_at(3))
        self.assertEqual(next(order.lines()), TEN)


if __name__ == "__main__":
    unittest.main()
