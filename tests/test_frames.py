import unittest

from fittingpasts.errors import ArchiveError, InvalidFrame, InvalidLine, UnknownName
from fittingpasts.frames import Frame
from tests.helpers import BIG, Case
from tests.houses import FULL, PAIR, TEXT, irregular_frames

PARTS = {
    "events": ("fire", "feast", "fall"),
    "people": ("ann", "ben", "cid"),
    "meetings": (("feast", ("cid", "ann")), ("fire", ("ben", "cid", "ann"))),
    "cycles": (("week", 2, 3), ("month", 1, 12)),
    "marks": ("size", "hue"),
    "rolls": (("deed", "feast", (3, -4)), ("will", "fire", (0, 0)), ("note", "feast", (3, 7))),
    "shelves": (("attic", ("note", "deed")), ("desk", ())),
    "last": 4,
}
WRONG_NAMES = ("", "or", "Ann", "a b", "a1", "ninelongs", "a+", "-", "a\n", "5")
WRONG = {
    "last": [0, 21, -1, BIG, -BIG],
    "events": [
        (), tuple("abcdefghi"), ("fire", "feast", "fall", "fire"), *[("fire", "feast", name) for name in WRONG_NAMES],
    ],
    "people": [
        ("ann", "ben", "cid", "dot", "eve"), ("ann", "ben", "cid", "ann"),
        *[("ann", "ben", "cid", name) for name in WRONG_NAMES],
    ],
    "meetings": [
        [("fall", ("ann",))], [("fall", ())], [("fall", ("ann", "ann"))], [("fall", ("ann", "ben", "ann"))],
        [("fall", ("ann", "eve"))], [("fall", ("", "ann"))], [("fair", ("ann", "ben"))], [("", ("ann", "ben"))],
        [("fall", ("ann", "ben")), ("fall", ("ben", "cid"))], [("fall", ("ann", "ben")), ("feast", ("ann", "fire"))],
    ],
    "cycles": [
        [("week", 0, 3)], [("week", 3, 2)], [("week", 1, 13)], [("week", -1, 3)], [("week", 13, 13)],
        [("week", 2, BIG)],
        [("week", 2, 3), ("week", 2, 3)], [("a", 1, 1), ("b", 1, 1), ("c", 1, 1)], [("week", 2, 3), ("b", 2, 1)],
        *[[("week", 2, 3), (name, 2, 3)] for name in WRONG_NAMES],
    ],
    "marks": [("age", "hue"), ("hue", "age"), ("hue", "hue"), *[("hue", name) for name in WRONG_NAMES]],
    "rolls": [
        [("deed", "feast", (1,))], [("deed", "feast", (1, 2, 3))], [("deed", "feast", ())],
        [("deed", "fair", (1, 2))], [("deed", "", (1, 2))], [("deed", "ann", (1, 2))],
        [("deed", "feast", (1, 2)), ("deed", "fire", (3, 4))],
        [("deed", "feast", (1, 10 ** 12 + 1))], [("deed", "feast", (-10 ** 12 - 1, 0))], [("deed", "feast", (BIG, 0))],
        [(name, "fire", (1, 2)) for name in "abcdefghi"],
        *[[("deed", "feast", (1, 2)), (name, "fire", (1, 2))] for name in WRONG_NAMES],
    ],
    "shelves": [
        [("attic", ("note", "note"))], [("attic", ("note", "map"))], [("attic", ("",))], [("attic", ("fire",))],
        [("attic", ()), ("attic", ("note",))], [("a", ()), ("b", ()), ("c", ())],
        [("attic", ("note", "deed")), ("desk", ("deed", "will", "deed"))],
        *[[("attic", ()), (name, ())] for name in WRONG_NAMES],
    ],
}
ORDER = ("last", "events", "people", "meetings", "cycles", "marks", "rolls", "shelves")


class MakingTest(Case):
    def test_example_of_the_interface(self):
        self.assertEqual(str(PAIR), "last 6\nevents fire feast\npeople ann ben\nmeeting feast ann ben\nmarks")

    def test_attributes(self):
        frame = Frame(**PARTS)
        for part, value in PARTS.items():
            self.assertEqual(getattr(frame, part), value)
        by_place = [PARTS[part] for part in ORDER[1:]]
        self.assertEqual(Frame(*by_place, last=4), frame)
        bare = Frame(("fire",))
        self.assertEqual([getattr(bare, part) for part in ORDER], [10, ("fire",), (), (), (), (), (), ()])

    def test_sequences_become_tuples_and_copies(self):
        guests, values, rolls = ["cid", "ann"], [3, -4], ["deed"]
        meetings, marks = [["feast", guests]], ["size", "hue"]
        more = [["deed", "feast", values]]
        shelves, cycles = [["attic", rolls]], [["week", 2, 3]]
        events, people = ["feast"], ["ann", "cid"]
        frame = Frame(events, people, meetings, cycles, marks, more, shelves)
        for row in (guests, values, rolls, meetings, marks, more, shelves, cycles, events, people):
            row.clear()
        self.assertEqual(frame.meetings, (("feast", ("cid", "ann")),))
        self.assertEqual(frame.rolls, (("deed", "feast", (3, -4)),))
        self.assertEqual(frame.shelves, (("attic", ("deed",)),))
        self.assertEqual([frame.events, frame.people], [("feast",), ("ann", "cid")])
        self.assertEqual([frame.cycles, frame.marks], [(("week", 2, 3),), ("size", "hue")])

    def test_class_values(self):
        values = {
            "MOST_EVENTS": 8, "MOST_PEOPLE": 4, "MOST_MEETINGS": 4, "MOST_CYCLES": 2, "MOST_LENGTH": 12,
            "MOST_MARKS": 2,
            "MOST_ROLLS": 8, "MOST_SHELVES": 2, "MOST_ON_SHELF": 5, "LAST_DAY": 20,
        }
        for name, value in values.items():
            self.assertEqual(getattr(Frame, name), value)
            self.assertEqual(getattr(PAIR, name), value)

    def test_equality(self):
        self.assertEqual(Frame(**PARTS), Frame(**PARTS))
        others = {
            "events": ("fire", "fall", "feast"), "people": ("ben", "ann", "cid"), "meetings": PARTS["meetings"][::-1],
            "cycles": PARTS["cycles"][::-1], "marks": ("hue", "size"), "rolls": PARTS["rolls"][::-1],
            "shelves": PARTS["shelves"][::-1], "last": 5,
        }
        for part, value in others.items():
            self.assertNotEqual(Frame(**PARTS), Frame(**{**PARTS, part: value}), part)
        self.assertFalse(PAIR == str(PAIR))


class InvalidFrameTest(Case):
    def test_each_part(self):
        for part, rows in WRONG.items():
            for wrong in rows:
                self.assert_fails(InvalidFrame(part), lambda: Frame(**{**PARTS, part: wrong}))

    def test_the_first_wrong_part(self):
        # Wrong in its own way, whatever the other parts are.
        worst = {
            "events": ("Fire", "feast", "fall"), "people": ("ann", "ann"), "meetings": [("feast", ("cid",))],
            "cycles": [("week", 3, 2)], "marks": ("age", "hue"), "rolls": [("deed", "feast", (1,))],
            "shelves": [("attic", ("map",))], "last": 0,
        }
        for at, part in enumerate(ORDER):
            for later in range(at + 1, len(ORDER) + 1):
                wrong = {name: worst[name] for name in ORDER[at:later]}
                self.assert_fails(InvalidFrame(part), lambda: Frame(**{**PARTS, **wrong}))

    def test_a_part_is_judged_by_the_parts_ahead_of_it(self):
        right = {**PARTS, "rolls": (), "shelves": ()}
        self.assert_fails(InvalidFrame("meetings"), lambda: Frame(**{**right, "people": ("ann", "cid")}))
        self.assert_fails(InvalidFrame("meetings"), lambda: Frame(**{**right, "events": ("feast", "fall")}))
        self.assert_fails(InvalidFrame("rolls"), lambda: Frame(**{**PARTS, "marks": ("hue",)}))
        self.assert_fails(InvalidFrame("shelves"), lambda: Frame(**{**PARTS, "rolls": PARTS["rolls"][:2]}))

    def test_the_error_is_an_archive_error(self):
        with self.assertRaises(ArchiveError):
            Frame(())

    def test_bounds(self):
        eight, five = tuple("abcdefgh"), tuple("abcde")
        rolls = [(name, "a", (10 ** 12, -10 ** 12)) for name in eight]
        frame = Frame(
            eight, tuple("abcd"), [(event, ("a", "b")) for event in "abcd"], [("a", 1, 1), ("b", 12, 12)], ("a", "b"),
            rolls,
            [("a", five), ("b", eight[3:])], last=20,
        )
        self.assertEqual(len(frame.rolls), 8)
        self.assertEqual(Frame.read(str(frame)), frame)
        self.assertEqual(Frame(["abcdefgh"], last=1).last, 1)
        five_met = [(event, ("a", "b")) for event in "abcde"]
        self.assert_fails(InvalidFrame("meetings"), lambda: Frame(eight, ("a", "b"), five_met))
        six = [("a", eight[:6])]
        self.assert_fails(InvalidFrame("shelves"), lambda: Frame(eight, marks=("a", "b"), rolls=rolls, shelves=six))
        self.assert_fails(InvalidFrame("marks"), lambda: Frame(eight, marks=("a", "b", "c")))

    def test_the_same_name_for_things_of_different_kinds(self):
        frame = Frame(
            ("ann",), ("ann", "b"), [("ann", ("b", "ann"))], [("ann", 1, 2)], ("ann",), [("ann", "ann", (1,))],
            [("ann", ("ann",))],
        )
        self.assertEqual(frame.guests("ann"), ("b", "ann"))
        self.assertEqual(Frame.read(str(frame)), frame)

    def test_a_roll_on_both_shelves(self):
        frame = Frame(("a",), rolls=[("r", "a", ())], shelves=[("s", ("r",)), ("t", ("r",))])
        self.assertEqual([frame.rolls_on("s"), frame.rolls_on("t")], [("r",), ("r",)])


class MethodsTest(Case):
    def test_what_they_return(self):
        self.assertEqual([FULL.guests(event) for event in FULL.events], [("ben", "cid", "ann"), ("cid", "ann"), ()])
        self.assertEqual([FULL.event_of(roll) for roll in ("deed", "will", "ann")], ["feast", "fire", "fall"])
        self.assertEqual([FULL.values_of_roll("deed"), FULL.values_of_roll(roll="will")], [(3, -4), (0, 0)])
        self.assertEqual([FULL.rolls_on("attic"), FULL.rolls_on("ann")], [("note", "ann", "deed"), ("ann", "will")])
        self.assertEqual(FULL.shelf_marks("attic"), ((3, 7), (-1, 7), (3, -4)))
        self.assertEqual(FULL.shelf_marks(shelf="ann"), ((-1, 7), (0, 0)))
        self.assertEqual(Frame(("a",), shelves=[("s", ())]).shelf_marks("s"), ())
        self.assertEqual(PAIR.guests(event="fire"), ())

    def test_unknown_names(self):
        for name in ("ben", "week", "size", "deed", "attic", "", "fair"):
            self.assert_fails(UnknownName(name), lambda: FULL.guests(name))
        for name in ("fire", "attic", "ben", ""):
            self.assert_fails(UnknownName(name), lambda: FULL.event_of(name))
            self.assert_fails(UnknownName(name), lambda: FULL.values_of_roll(name))
        for name in ("fire", "deed", "ben", ""):
            self.assert_fails(UnknownName(name), lambda: FULL.rolls_on(name))
            self.assert_fails(UnknownName(name), lambda: FULL.shelf_marks(name))


class TextTest(Case):
    def wrong(self, line, text):
        self.assert_fails(InvalidLine(line), lambda: Frame.read(text))

    def test_texts(self):
        self.assertEqual(str(FULL), TEXT)
        self.assertEqual(str(Frame(("fire",), last=9)), "last 9\nevents fire\npeople\nmarks")
        frame = Frame(("a",), rolls=[("r", "a", ())], shelves=[("s", ())], last=1)
        self.assertEqual(str(frame), "last 1\nevents a\npeople\nmarks\nroll r a\nshelf s")

    def test_written_and_read_back(self):
        for frame in [FULL, PAIR, Frame(**PARTS), *irregular_frames(3, 60)]:
            self.assertEqual(Frame.read(str(frame)), frame)
            self.assertEqual(str(Frame.read(text=str(frame))), str(frame))

    def test_missing_lines(self):
        lines = TEXT.split("\n")
        for at in (0, 1, 2, 7):
            self.wrong(at + 1, "\n".join(lines[:at] + lines[at + 1:]))
        for many in (1, 2, 3, 4, 5, 6, 7):
            self.wrong(many + 1, "\n".join(lines[:many]))
        for many in (11, 12, 13, 14):
            parts = "\n".join(lines[:many])
            self.assertEqual(str(Frame.read(parts)), parts)
        self.wrong(1, "")
        self.wrong(1, "\n")
        self.wrong(2, "last 4")
        self.wrong(2, "last 4\n")

    def test_lines_out_of_their_place(self):
        lines = TEXT.split("\n")
        kinds = [line.split(" ")[0] for line in lines]
        for at in range(len(lines) - 1):
            if kinds[at] != kinds[at + 1]:
                line = at + 1 if kinds[at] in ("last", "events", "people", "marks") else at + 2
                moved = lines[:at] + [lines[at + 1], lines[at]] + lines[at + 2:]
                self.wrong(line, "\n".join(moved))
        for at in (0, 1, 2, 7):
            self.wrong(at + 2, "\n".join(lines[:at + 1] + lines[at:]))
        self.wrong(15, TEXT + "\nroll x fire 1 2")
        self.wrong(15, TEXT + "\nevents")

    def test_any_number_of_the_lines_that_may_occur_often(self):
        text = "last 4\nevents a\npeople\n" + "cycle a 1 1\n" * 3 + "marks"
        self.assert_fails(InvalidFrame("cycles"), lambda: Frame.read(text))
        text = "last 4\nevents a\npeople a b" + "\nmeeting a a b" * 5 + "\nmarks"
        self.assert_fails(InvalidFrame("meetings"), lambda: Frame.read(text))

    def test_blanks(self):
        lines = TEXT.split("\n")
        for at, line in enumerate(lines):
            for wrong in (f" {line}", f"{line} ", line.replace(" ", "  ", 1), line.replace(" ", "\t", 1)):
                self.wrong(at + 1, "\n".join([*lines[:at], wrong, *lines[at + 1:]]))
            self.wrong(at + 1, "\n".join([*lines[:at], "", *lines[at:]]))
        self.wrong(15, TEXT + "\n")
        self.wrong(1, "\n" + TEXT)
        self.wrong(1, TEXT.replace("\n", "\r\n"))
        self.wrong(3, "last 4\nevents a\npeople \nmarks")

    def test_wrong_words(self):
        lines = TEXT.split("\n")
        for at, wrong in (
            (0, "last"), (0, "last 4 5"), (0, "last a"), (0, "last -4"), (0, "last 04"), (0, "last +4"), (0, "Last 4"),
            (0, "last 1234567890123456789"), (0, "4"), (0, "lasts 4"), (1, "events fire or"), (1, "events Fire"),
            (1, "events fire ninelongs"), (1, "event fire"), (1, "events 5"), (2, "people ann b-"), (2, "person ann"),
            (3, "meeting"), (3, "meeting 4 ann"), (3, "meeting feast or ann"), (3, "meet feast ann ben"),
            (5, "cycle week 2"), (5, "cycle week"), (5, "cycle week 2 3 4"), (5, "cycle week 02 3"),
            (5, "cycle 2 3 week"),
            (5, "cycle week 2 -3"), (5, "cycle week -0 3"), (5, "cycle or 2 3"), (7, "marks size 5"), (7, "mark size"),
            (8, "roll deed"), (8, "roll deed feast 3 - 4"), (8, "roll deed feast 3 -0"), (8, "roll deed feast 3 +4"),
            (8, "roll deed feast 3 --4"), (8, "roll deed feast 03 4"), (8, "roll deed feast 3 -04"),
            (8, "roll deed 3 -4"),
            (8, "roll deed feast 3 -"), (8, "roll deed feast 3 1234567890123456789"), (8, "roll deed feast 3 x"),
            (8, "roll deed feast 3 -1234567890123456789"), (8, "roll or feast 3 4"), (8, "rolls deed feast 3 4"),
            (12, "shelf"), (12, "shelf attic 4"), (12, "shelf or note"), (12, "shelf attic note or"),
            (12, "shelves attic"),
        ):
            self.wrong(at + 1, "\n".join([*lines[:at], wrong, *lines[at + 1:]]))

    def test_the_first_wrong_line(self):
        self.wrong(2, "last 4\nevent a\npeople 4\nmark")
        self.wrong(1, "last 4x\nevent a")
        # The names and the numbers of the lines behind do not matter.
        self.wrong(4, "last 99\nevents\npeople a a\nmarks -")

    def test_the_right_form_of_what_is_no_frame(self):
        for text, part in (
            ("last 0\nevents a\npeople\nmarks", "last"), ("last 999999999999999999\nevents\npeople\nmarks", "last"),
            ("last 4\nevents\npeople\nmarks", "events"), ("last 4\nevents a a\npeople\nmarks", "events"),
            ("last 4\nevents a\npeople b b\nmarks", "people"),
            ("last 4\nevents a\npeople\nmeeting a\nmarks", "meetings"),
            ("last 4\nevents a\npeople\nmeeting b c d\nmarks", "meetings"),
            ("last 4\nevents a\npeople\ncycle a 0 1\nmarks", "cycles"),
            ("last 4\nevents a\npeople\nmarks age", "marks"),
            ("last 4\nevents a\npeople\nmarks\nroll r a 3", "rolls"),
            ("last 4\nevents a\npeople\nmarks m\nroll r a 999999999999999999", "rolls"),
            ("last 4\nevents a\npeople\nmarks m\nroll r a -999999999999999999", "rolls"),
            ("last 4\nevents a\npeople\nmarks\nshelf s r", "shelves"),
        ):
            self.assert_fails(InvalidFrame(part), lambda: Frame.read(text))


if __name__ == "__main__":
    unittest.main()
