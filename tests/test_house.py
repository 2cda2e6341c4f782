import unittest
from itertools import product

from fittingpasts.errors import UnknownTie
from fittingpasts.frames import Frame
from fittingpasts.house import frame_network, house_ties, tie_holds, tie_scope
from fittingpasts.rules import Rule
from fittingpasts.variables import values_of, variables
from tests.helpers import Case
from tests.houses import FULL, PAIR, irregular_frames

SMALL = [
    Frame(("a", "b"), ("p", "q"), [("a", ("q", "p"))], last=2),
    Frame(("a", "b"), ("p", "q", "r"), [("b", ("r", "p"))], last=1),
    Frame(("a", "b"), ("p", "q"), [("b", ("p", "q")), ("a", ("p", "q"))], last=2),
    Frame(("a",), ("p",), last=3),
    Frame(("a", "b"), rolls=[("r", "a", ()), ("s", "b", ()), ("t", "a", ())], shelves=[("x", ("t", "s", "r"))], last=3),
    Frame(
        ("a", "b"), marks=("m",), rolls=[("r", "a", (1,)), ("s", "b", (0,)), ("t", "a", (1,)), ("u", "b", (1,))],
        shelves=[("x", ("u", "s", "r")), ("y", ("r", "t"))], last=2,
    ),
    Frame(("a",), marks=("m", "n"), rolls=[("r", "a", (1, 2)), ("s", "a", (2, 1))], shelves=[("x", ("s", "r"))],
        last=1),
    Frame(("a",), rolls=[("r", "a", ())], shelves=[("x", ()), ("y", ("r",))], last=1),
]


def roll_named(frame, name):
    return [roll for roll in frame.rolls if roll[0] == name][0]


def means(frame, label, row):
    """Point 69 word by word; `row` has the value of each variable."""
    kind, name = label[:2]
    if kind == "guest":
        return row["stay", label[2]][0] <= row["day", name] <= row["stay", label[2]][1]
    if kind == "begin":
        return (row["source", name] == (name,)) is (row["begin", ""] == name)
    if kind == "hear":
        source, heard = row["source", name], row["heard", name]
        if source in ((), (name,)):
            return heard == (0 if source else frame.last + 1)
        return heard == row["day", source[1]] and row["heard", source[0]] < row["day", source[1]]
    shelf = [rolls for shelf, rolls in frame.shelves if shelf == name][0]
    keys = {
        roll: Rule(row["rule", name])((*roll_named(frame, roll)[2], row["day", roll_named(frame, roll)[1]]))
        for roll in (label[2:] or shelf)
    }
    stray = row["astray", name]
    if kind == "sorted":
        return stray in label[2:] or keys[label[2]] <= keys[label[3]]
    pairs = [(shelf[i], shelf[j]) for i in range(len(shelf)) for j in range(i + 1, len(shelf))]
    return stray == "" or any(stray in pair and keys[pair[0]] > keys[pair[1]] for pair in pairs)


class LabelsTest(Case):
    def test_all_kinds_in_their_order(self):
        self.assertEqual(house_ties(FULL), [
            ("guest", "feast", "cid"), ("guest", "feast", "ann"), ("guest", "fire", "ben"), ("guest", "fire", "cid"),
            ("guest", "fire", "ann"), ("begin", "ann"), ("begin", "ben"), ("begin", "cid"), ("hear", "ann"),
            ("hear", "ben"), ("hear", "cid"), ("sorted", "attic", "note", "ann"), ("sorted", "attic", "note", "deed"),
            ("sorted", "attic", "ann", "deed"), ("sorted", "ann", "ann", "will"), ("astray", "attic"),
            ("astray", "ann"),
        ])

    def test_frames_without_some_of_them(self):
        self.assertEqual(house_ties(Frame(("a",), cycles=[("c", 1, 2)])), [])
        self.assertEqual(house_ties(frame=Frame(("a",), ("p",))), [("begin", "p"), ("hear", "p")])
        self.assertEqual(house_ties(SMALL[7]), [("astray", "x"), ("astray", "y")])

    def test_lists_are_new(self):
        house_ties(FULL).clear()
        self.assertEqual(len(house_ties(FULL)), 17)


class ScopeTest(Case):
    def test_each_kind(self):
        self.assertEqual(tie_scope(FULL, ("guest", "feast", "cid")), (("day", "feast"), ("stay", "cid")))
        self.assertEqual(tie_scope(FULL, ("begin", "ben")), (("begin", ""), ("source", "ben")))
        self.assertEqual(
            tie_scope(FULL, ("sorted", "attic", "ann", "deed")),
            (("day", "feast"), ("day", "fall"), ("rule", "attic"), ("astray", "attic")),
        )
        self.assertEqual(
            tie_scope(frame=FULL, label=("astray", "ann")),
            (("day", "fire"), ("day", "fall"), ("rule", "ann"), ("astray", "ann")),
        )

    def test_rolls_with_the_same_event(self):
        self.assertEqual(
            tie_scope(FULL, ("sorted", "attic", "note", "deed")),
            (("day", "feast"), ("rule", "attic"), ("astray", "attic"))
        )
        self.assertEqual(
            tie_scope(FULL, ("astray", "attic")),
            (("day", "feast"), ("day", "fall"), ("rule", "attic"), ("astray", "attic"))
        )
        self.assertEqual(tie_scope(SMALL[7], ("astray", "x")), (("rule", "x"), ("astray", "x")))

    def test_hearing(self):
        self.assertEqual(tie_scope(FULL, ("hear", "ann")), (
            ("day", "fire"), ("day", "feast"), ("source", "ann"), ("heard", "ann"), ("heard", "ben"), ("heard", "cid"),
        ))
        self.assertEqual(tie_scope(FULL, ("hear", "ben")), (
            ("day", "fire"), ("source", "ben"), ("heard", "ann"), ("heard", "ben"), ("heard", "cid"),
        ))
        # r and p met, and q met nobody.
        self.assertEqual(tie_scope(SMALL[1], ("hear", "p")), (
            ("day", "b"), ("source", "p"), ("heard", "p"), ("heard", "r"),
        ))
        self.assertEqual(tie_scope(SMALL[1], ("hear", "q")), (("source", "q"), ("heard", "q")))

    def test_scopes_of_irregular_frames(self):
        for frame in irregular_frames(23, 60):
            names = variables(frame)
            for label in house_ties(frame):
                scope = tie_scope(frame, label)
                self.assertIs(type(scope), tuple)
                places = [names.index(variable) for variable in scope]
                self.assertEqual(places, sorted(set(places)))
                if label[0] == "hear":
                    met = [(event, guests) for event, guests in frame.meetings if label[1] in guests]
                    wanted = {("source", label[1]), ("heard", label[1])} | {("day", event) for event, _ in met}
                    wanted |= {("heard", guest) for _, guests in met for guest in guests}
                    self.assertEqual(set(scope), wanted)


class HoldsTest(Case):
    def test_against_the_words_for_all_choices(self):
        for frame in SMALL:
            for label in house_ties(frame):
                scope = tie_scope(frame, label)
                held = 0
                for values in product(*[values_of(frame, variable) for variable in scope]):
                    right = means(frame, label, dict(zip(scope, values)))
                    self.assertIs(tie_holds(frame, label, values), right, (label, values))
                    held += right
                self.assertGreater(held, 0)

    def test_lists_of_values(self):
        self.assertTrue(tie_holds(frame=PAIR, label=("guest", "feast", "ann"), values=[3, (3, 3)]))
        self.assertFalse(tie_holds(PAIR, ("guest", "feast", "ann"), [3, (4, 6)]))

    def test_never_heard(self):
        scope = tie_scope(PAIR, ("hear", "ben"))
        self.assertEqual(scope, (("day", "feast"), ("source", "ben"), ("heard", "ann"), ("heard", "ben")))
        self.assertTrue(tie_holds(PAIR, ("hear", "ben"), (3, (), 0, 7)))
        self.assertFalse(tie_holds(PAIR, ("hear", "ben"), (3, (), 0, 6)))
        self.assertFalse(tie_holds(PAIR, ("hear", "ben"), (3, ("ann", "feast"), 7, 3)))
        self.assertFalse(tie_holds(PAIR, ("hear", "ben"), (3, ("ann", "feast"), 3, 3)))
        self.assertTrue(tie_holds(PAIR, ("hear", "ben"), (3, ("ann", "feast"), 2, 3)))

    def test_unknown_ties_whatever_the_values_are(self):
        for label in (
            (), ("",), ("guest",), ("guest", "feast"), ("guest", "feast", "ben"), ("guest", "fall", "ann"),
            ("guest", "ann", "feast"), ("guest", "feast", "cid", "ann"), ("begin",), ("begin", ""), ("begin", "dot"),
            ("begin", "ann", "ben"), ("hear", "fire"), ("hear",), ("sorted", "attic"),
            ("sorted", "attic", "ann", "note"),
            ("sorted", "attic", "note", "note"), ("sorted", "attic", "note", "will"), ("sorted", "ann", "note", "deed"),
            ("astray",), ("astray", "desk"), ("astray", "attic", "note"), ("paper", "0"), ("told", "ann"),
            ("Hear", "ann"),
        ):
            self.assert_fails(UnknownTie(label), lambda: tie_scope(FULL, label))
            for values in ((), (1, 2, 3), ((0, 0),)):
                self.assert_fails(UnknownTie(label), lambda: tie_holds(FULL, label, values))


class NetworkTest(Case):
    def test_points_and_spans(self):
        network = frame_network(FULL)
        self.assertEqual(
            network.points, ("fire", "feast", "fall", "ann+", "ann-", "ben+", "ben-", "cid+", "cid-")
        )
        self.assertEqual((network.first, network.last), (0, 4))
        self.assertEqual(network.spans, (
            ("ann+", "ann-", 0), ("ben+", "ben-", 0), ("cid+", "cid-", 0), ("cid+", "feast", 0), ("feast", "cid-", 0),
            ("ann+", "feast", 0), ("feast", "ann-", 0), ("ben+", "fire", 0), ("fire", "ben-", 0), ("cid+", "fire", 0),
            ("fire", "cid-", 0), ("ann+", "fire", 0), ("fire", "ann-", 0),
        ))
        bare = frame_network(frame=Frame(("a",), last=3))
        self.assertEqual([bare.points, bare.spans, bare.first, bare.last], [("a",), (), 0, 3])

    def test_the_greatest_frame(self):
        frame = Frame(tuple("abcdefgh"), tuple("abcd"), [(event, tuple("abcd")) for event in "abcd"])
        self.assertEqual(len(frame_network(frame).points), 16)
        self.assertTrue(frame_network(frame).is_possible())

    def test_completions_are_the_choices_that_keep_the_guests_ties(self):
        for frame in SMALL[:4]:
            network = frame_network(frame)
            guests = [label for label in house_ties(frame) if label[0] == "guest"]
            names = [variable for variable in variables(frame) if variable[0] in ("day", "stay")]
            kept = []
            for values in product(*[values_of(frame, variable) for variable in names]):
                row = dict(zip(names, values))
                if all(tie_holds(frame, label, [row[name] for name in tie_scope(frame, label)]) for label in guests):
                    days = [row["day", event] for event in frame.events]
                    kept.append((*days, *[day for person in frame.people for day in row["stay", person]]))
            days = range(frame.last + 1)
            complete = [
                row for row in product(days, repeat=len(network.points))
                if all(
                    row[network.points.index(after)] - row[network.points.index(before)] >= least
                    for before, after, least in network.spans
                )
            ]
            self.assertEqual(sorted(kept), complete)


if __name__ == "__main__":
    unittest.main()
