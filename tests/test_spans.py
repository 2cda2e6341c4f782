import itertools
import unittest

from fittingpasts.errors import Duplicate, NoCompletion, OutOfRange, TooMany, UnknownName
from fittingpasts.spans import Network, judge_ring, path_sum
from tests.helpers import BIG, Case, Numbers

ABC = ("a", "b", "c")


def completions(network):
    """All completions, tried one by one."""
    days = range(network.first, network.last + 1)
    found = []
    for row in itertools.product(days, repeat=len(network.points)):
        day = dict(zip(network.points, row))
        if all(day[after] - day[before] >= least for before, after, least in network.spans):
            found.append(row)
    return found


def samples():
    """Small networks, about half of them without a completion."""
    numbers = Numbers(9)
    rows = [Network(()), Network(("a",), last=0), Network(("a", "b"), first=-2, last=1)]
    rows.append(Network(("a",), [("a", "a", 1)], last=3))
    rows.append(Network(("a",), [("a", "a", 0), ("a", "a", -4)], last=3))
    for _ in range(260):
        points = ("a", "b", "c", "d")[:numbers.between(1, 4)]
        first = numbers.between(-3, 3)
        last = first + numbers.between(0, 4)
        spans = []
        for _ in range(numbers.between(0, 6)):
            spans.append((numbers.choice(points), numbers.choice(points), numbers.between(-4, 3)))
        rows.append(Network(points, spans, first=first, last=last))
    return rows


SAMPLES = samples()


class MakingTest(Case):
    def test_attributes_are_copies(self):
        points, spans = ["a", "b"], [("a", "b", 1)]
        network = Network(points, spans, first=-2, last=5)
        points.append("c")
        spans.clear()
        self.assertEqual(network.points, ("a", "b"))
        self.assertEqual(network.spans, (("a", "b", 1),))
        self.assertEqual((network.first, network.last), (-2, 5))

    def test_defaults_and_names(self):
        network = Network(points=("a",))
        self.assertEqual((network.spans, network.first, network.last), ((), 0, 30))
        self.assertEqual(Network(("a",), spans=[]), network)
        self.assertEqual(Network(("a",), [["a", "a", 0]]), Network(("a",), [("a", "a", 0)]))
        with self.assertRaises(TypeError):
            Network(("a",), (), 0, 30)

    def test_too_many_points(self):
        names = tuple("abcdefghijklmnopq")
        self.assertEqual(len(Network(names[:16]).least_days()), 16)
        self.assert_fails(TooMany(16), lambda: Network(names))
        self.assert_fails(TooMany(16), lambda: Network("a" * 17, [("x", "y", 0)], first=1, last=0))

    def test_which_error_comes_first(self):
        wrong = [("a", "b", 1), ("x", "y", 0)]
        self.assert_fails(Duplicate("b"), lambda: Network(("a", "b", "c", "b", "a"), wrong, first=1, last=0))
        self.assert_fails(UnknownName("x"), lambda: Network(("a", "b"), wrong, first=1, last=0))
        self.assert_fails(UnknownName("y"), lambda: Network(("a", "x"), [("a", "y", 0), ("z", "a", 0)]))
        self.assert_fails(OutOfRange(0), lambda: Network(("a", "b"), wrong[:1], first=1, last=0))
        self.assert_fails(OutOfRange(-1), lambda: Network((), last=-1))

    def test_points_may_be_any_strings(self):
        network = Network(("", "ann+", "A b"), [("", "ann+", 2)])
        self.assertEqual(network.least_days(), (0, 2, 0))

    def test_plus(self):
        network = Network(ABC, [("a", "b", 2)], first=1, last=9)
        longer = network + ("b", "c", 3)
        self.assertEqual(longer, Network(ABC, [("a", "b", 2), ("b", "c", 3)], first=1, last=9))
        self.assertEqual(network.spans, (("a", "b", 2),))
        self.assertEqual((longer + ("a", "b", 2)).spans, (("a", "b", 2), ("b", "c", 3), ("a", "b", 2)))
        self.assert_fails(UnknownName("x"), lambda: network + ("x", "y", 1))
        self.assert_fails(UnknownName("y"), lambda: network + ("a", "y", 1))

    def test_in_and_equality(self):
        network = Network(ABC, [("a", "b", 2)], last=9)
        self.assertIn(("a", "b", 2), network)
        for span in (("a", "b", 1), ("b", "a", 2), ("a", "b", -9), ("x", "y", 2)):
            self.assertNotIn(span, network)
        for other in (
            Network(("b", "a", "c"), [("a", "b", 2)], last=9), Network(ABC, [], last=9),
            Network(ABC, [("a", "b", 2)], last=8), Network(ABC, [("a", "b", 2)], first=1, last=9),
        ):
            self.assertNotEqual(network, other)
        self.assertEqual(network, Network(list(ABC), (("a", "b", 2),), last=9))
        self.assertFalse(network == ABC)


class CompletionTest(Case):
    def test_examples_of_the_interface(self):
        network = Network(ABC, [("a", "b", 2), ("b", "c", 3)], last=9)
        self.assertEqual(network.least_days(), (0, 2, 5))
        self.assertEqual(network.greatest_days(), (4, 6, 9))
        self.assertEqual(network.between("a", "c"), (5, 9))

    def test_there_are_samples_of_both_kinds(self):
        possible = [network for network in SAMPLES if completions(network)]
        self.assertGreater(len(possible), 80)
        self.assertGreater(len(SAMPLES) - len(possible), 80)

    def test_against_all_completions(self):
        for network in SAMPLES:
            found = completions(network)
            self.assertIs(network.is_possible(), bool(found))
            if not found:
                continue
            many = range(len(network.points))
            least = tuple(min(row[at] for row in found) for at in many)
            greatest = tuple(max(row[at] for row in found) for at in many)
            self.assertEqual(network.least_days(), least)
            self.assertEqual(network.greatest_days(), greatest)
            self.assertIn(least, found)
            self.assertIn(greatest, found)
            self.assertEqual(network.slack(), tuple(greatest[at] - least[at] for at in many))

    def test_differences_against_all_completions(self):
        for network in SAMPLES:
            found = completions(network)
            tied = []
            for one, other in itertools.product(range(len(network.points)), repeat=2):
                if not found:
                    break
                before, after = network.points[one], network.points[other]
                gaps = sorted({row[other] - row[one] for row in found})
                self.assertEqual(network.between(before, after), (gaps[0], gaps[-1]))
                closest = network.closest(before, after)
                self.assertIn(closest, found)
                self.assertEqual(closest[other] - closest[one], gaps[0])
                self.check_lead(network, before, after, gaps[0])
                if one < other and len(gaps) == 1:
                    tied.append((before, after))
            if found:
                self.assertEqual(network.tied(), tied)

    def check_lead(self, network, before, after, least):
        path = network.lead(before, after)
        self.assertIsInstance(path, tuple)
        self.assertEqual(sum(step[2] for step in path), least)
        self.assertEqual(path_sum(network, path), least)
        if before == after:
            self.assertEqual(path, ())
            return
        self.walk(network, path, before, after)

    def walk(self, network, path, before, after):
        """Each step is a span or holds by the bounds, and begins where the step ahead of it ends."""
        at = before
        for step in path:
            self.assertEqual(step[0], at)
            bound = step[1] in network.points and step[2] == network.first - network.last
            self.assertTrue(step in network.spans or bound, step)
            at = step[1]
        self.assertEqual(at, after)

    def test_no_completion(self):
        for network in SAMPLES:
            if network.is_possible():
                continue
            a, z = network.points[0], network.points[-1]
            for call in (
                network.least_days, network.greatest_days, network.slack, network.tied,
                lambda: network.between(a, z), lambda: network.lead(z, a), lambda: network.closest(a, z),
                lambda: network.between(a, a), lambda: network.lead(a, a), lambda: network.closest(a, a),
            ):
                ring = self.caught(NoCompletion, call).ring
                self.assertIsInstance(ring, tuple)
                self.assertGreater(len(ring), 0)
                self.walk(network, ring, ring[0][0], ring[0][0])
                self.assertGreater(sum(step[2] for step in ring), 0)
                self.assertIs(judge_ring(network, ring), True)

    def test_unknown_names_ahead_of_no_completion(self):
        for network in (Network(("a",), [("a", "a", 1)]), Network(("a",))):
            for method in (network.between, network.lead, network.closest):
                self.assert_fails(UnknownName("x"), lambda: method("x", "y"))
                self.assert_fails(UnknownName("x"), lambda: method("x", "a"))
                self.assert_fails(UnknownName("y"), lambda: method("a", "y"))
                self.assert_fails(UnknownName("y"), lambda: method(before="a", after="y"))

    def test_a_span_from_a_point_to_itself(self):
        self.assertTrue(Network(("a",), [("a", "a", 0)]).is_possible())
        self.assertTrue(Network(("a",), [("a", "a", -BIG)]).is_possible())
        network = Network(("a", "b"), [("a", "a", 1)])
        self.assertFalse(network.is_possible())
        self.assertEqual(set(self.caught(NoCompletion, network.least_days).ring), {("a", "a", 1)})

    def test_sixteen_points(self):
        names = tuple("abcdefghijklmnop")
        chain = [(before, after, 2) for before, after in zip(names, names[1:])]
        network = Network(names[::-1], chain, last=31)
        self.assertEqual(network.least_days(), tuple(range(0, 31, 2))[::-1])
        self.assertEqual(network.slack(), (1,) * 16)
        self.assertEqual(network.between("p", "a"), (-31, -30))
        self.assertEqual(len(network.lead("a", "p")), 15)
        tight = Network(names, chain, last=30)
        self.assertEqual(len(tight.tied()), 120)
        ring = self.caught(NoCompletion, Network(names, chain, last=29).slack).ring
        self.assertTrue(judge_ring(Network(names, chain, last=29), ring))
        self.assertEqual(len(ring), 16)

    def test_numbers_of_18_digits(self):
        network = Network(ABC, [("a", "b", BIG), ("b", "c", BIG + 1)], first=-3 * BIG, last=3 * BIG)
        self.assertEqual(network.least_days(), (-3 * BIG, -2 * BIG, -BIG + 1))
        self.assertEqual(network.greatest_days(), (BIG - 1, 2 * BIG - 1, 3 * BIG))
        self.assertEqual(network.between("a", "c"), (2 * BIG + 1, 6 * BIG))
        self.assertEqual(network.between("c", "a"), (-6 * BIG, -2 * BIG - 1))
        self.assertEqual(network.tied(), [])
        narrow = Network(ABC, network.spans, first=0, last=2 * BIG)
        self.assertTrue(judge_ring(narrow, self.caught(NoCompletion, narrow.least_days).ring))
        slow = Network(("a", "b"), [("a", "b", 1), ("b", "a", -1)], last=BIG)
        self.assertEqual(slow.tied(), [("a", "b")])
        self.assertEqual(slow.slack(), (BIG - 1, BIG - 1))

    def test_without_points(self):
        network = Network(())
        self.assertTrue(network.is_possible())
        self.assertEqual((network.least_days(), network.greatest_days(), network.slack()), ((), (), ()))
        self.assertEqual(network.tied(), [])

    def test_lists_are_new_and_the_network_stays(self):
        network = Network(("a", "b"), [("a", "b", 3)], last=3)
        pairs = network.tied()
        pairs.clear()
        self.assertEqual(network.tied(), [("a", "b")])
        self.assertEqual(network, Network(("a", "b"), [("a", "b", 3)], last=3))


class JudgeTest(Case):
    def setUp(self):
        self.network = Network(("a", "b"), [("a", "b", 3), ("b", "b", -1)], last=2)

    def test_examples_of_the_interface(self):
        network = Network(("a", "b"), [("a", "b", 3)], last=2)
        self.assertIs(judge_ring(network, (("a", "b", 3), ("b", "a", -2))), True)
        self.assertIsNone(path_sum(network, (("b", "a", -1),)))

    def test_paths(self):
        for path, total in (
            ((), 0), ((("a", "b", 3),), 3), ((("a", "b", -2),), -2), ((("a", "a", -2),), -2),
            ((("a", "b", 3), ("b", "b", -1), ("b", "b", -1)), 1), ((("b", "a", -2), ("a", "b", 3)), 1),
        ):
            self.assertEqual(path_sum(self.network, path), total)

    def test_spoilt_paths(self):
        for path in (
            (("a", "b", 2),), (("a", "b", 4),), (("b", "a", 3),), (("a", "x", -2),), (("x", "x", -2),),
            (("x", "y", 3),), (("x", "a", -2),), (("a", "b", 3), ("a", "b", 3)), (("a", "b", 3), ("b", "a", -1)),
            (("a", "b", 3), ("b", "x", -2)), (("a", "b", 2),), (("a", "b", BIG),), (("", "", 0),),
        ):
            self.assertIsNone(path_sum(self.network, path))
            self.assertIs(judge_ring(self.network, path), False)

    def test_rings(self):
        right = (("a", "b", 3), ("b", "a", -2))
        self.assertIs(judge_ring(self.network, right), True)
        self.assertIs(judge_ring(self.network, right[::-1]), True)
        self.assertIs(judge_ring(self.network, right + right), True)
        for ring in (
            (), (("a", "b", 3),), (("b", "b", -1),), (("a", "a", -2),), (("a", "b", 3), ("b", "b", -1), ("b", "a", -2)),
            (("a", "b", 3), ("b", "b", -1)), (("a", "b", 3), ("b", "a", 3)), (("a", "b", -2), ("b", "a", -2)),
        ):
            self.assertIs(judge_ring(self.network, ring), False)


if __name__ == "__main__":
    unittest.main()
