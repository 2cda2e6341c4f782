import unittest
from time import process_time

from fittingpasts.archives import archive_text, read_archive
from fittingpasts.desk import Desk
from fittingpasts.errors import Contradiction, InvalidFrame, InvalidLine, NoPast, NothingToUndo
from fittingpasts.frames import Frame
from fittingpasts.refuting import judge_refutation
from fittingpasts.statements import Apart, Clause, OnDay
from tests.helpers import Case
from tests.houses import FULL, PAIR
from tests.papers import GREAT, GREAT_PAPERS, cases
from tests.test_conflicts import UNSORTED

HEAD = "last 6\nevents fire feast\npeople ann ben\nmeeting feast ann ben\nmarks"
LINES = [
    *HEAD.split("\n"), "paper 2 apart fire feast 1 -", "paper 3 not onday fire 4 6 or told ann ben - or began ben",
    "paper 7 present ann fire", "paper 9999 heard ben ben-",
]


def text_of(lines):
    return "\n".join(lines)


class WritingTest(Case):
    def test_a_frame_and_its_papers(self):
        desk = Desk(PAIR)
        self.assertEqual(archive_text(desk), HEAD)
        desk.enter(OnDay("fire", 5, 5))
        desk.enter(Apart("fire", "feast", 1), Clause(~OnDay("feast", 9, 9), Apart("ann+", "ben-", None, -4)))
        desk.withdraw(1)
        self.assertEqual(
            archive_text(desk=desk),
            HEAD + "\npaper 2 apart fire feast 1 -\npaper 3 not onday feast 9 9 or apart ann+ ben- - -4",
        )

    def test_written_and_read_back(self):
        for frame, papers in cases(40, 40, most_choices=4000):
            desk = Desk(frame)
            desk.limit = 20
            for paper in papers:
                try:
                    desk.enter(paper)
                except Contradiction:
                    desk.skip_to(desk.size + 5)
            found = read_archive(archive_text(desk))
            self.assertIs(type(found), Desk)
            self.assertEqual([found.frame, found.listed()], [desk.frame, desk.listed()])
            self.assertEqual(archive_text(found), archive_text(desk))


class ReadingTest(Case):
    def test_what_a_desk_has_that_was_read(self):
        desk = read_archive(text=text_of(LINES))
        self.assertEqual(desk.frame, PAIR)
        self.assertEqual([number for number, _ in desk.listed()], [2, 3, 7, 9999])
        self.assertEqual(str(desk.found(3)), LINES[6].partition("3 ")[2])
        self.assertEqual([desk.limit, desk.size, desk.changes, desk.asked()], [20, 4, 0, []])
        self.assert_fails(NothingToUndo(), desk.undo)
        self.assertEqual(desk.enter(OnDay("fire", 0, 3)), [10000])
        self.assertEqual(archive_text(read_archive(text_of(LINES))), text_of(LINES))

    def test_without_papers(self):
        desk = read_archive(HEAD)
        self.assertEqual([desk.frame, desk.limit, desk.size, desk.changes], [PAIR, 20, 0, 0])
        self.assertEqual(desk.enter(OnDay("fire", 0, 3)), [1])
        full = read_archive(archive_text(Desk(FULL)))
        self.assertEqual(full.frame, FULL)

    def test_each_line_of_the_frame(self):
        for at in range(5):
            wrong = [*LINES[:at], LINES[at] + " -", *LINES[at + 1:]]
            self.assert_fails(InvalidLine(at + 1), lambda: read_archive(text_of(wrong)))
        for lines, line in (
            (LINES[5:], 1), (["", *LINES], 1), (LINES[:1], 2), (LINES[:2] + LINES[5:], 3), (LINES[:4] + LINES[5:], 5),
            ([*LINES[:5], "", *LINES[5:]], 6), ([*LINES[:5], "papers 1", *LINES[5:]], 6), ([], 1), (["paper"], 1),
        ):
            self.assert_fails(InvalidLine(line), lambda: read_archive(text_of(lines)))
        self.assert_fails(InvalidFrame("last"), lambda: read_archive(text_of(["last 21", *LINES[1:]])))
        self.assert_fails(InvalidFrame("events"), lambda: read_archive(text_of(["last 6", "events", *LINES[2:]])))

    def test_each_way_to_spoil_a_paper(self):
        for at in range(5, 9):
            number, text = LINES[at].split(" ", 2)[1:]
            for wrong in (
                "paper", "paper ", f"paper {number}", f"paper {number} ", f"paper  {number} {text}",
                f"paper {number}  {text}", f"paper {number} {text} ", f" paper {number} {text}",
                f"paper {text}", f"paper 0{number} {text}", f"paper -{number} {text}", f"paper +{number} {text}",
                f"paper 0 {text}", f"paper 10000 {text}", f"paper x {text}", f"paper {number}.0 {text}",
                f"Paper {number} {text}", f"papers {number} {text}", f"paper {number} {text} or", "", "marks",
                f"paper {number} {text} or {text} or {text} or {text}", f"paper {number} or {text}",
                f"paper {number} began cid", f"paper {number} onday fair 0 1", f"paper {number} dated fire week 1",
                f"paper {number} onday fire 9 9", f"paper {number} {text}\r", f"paper {number}\t{text}",
                f"paper {number} what {text}", f"paper {number} not not {text}", f"paper 1 {text}",
            ):
                lines = [*LINES[:at], wrong, *LINES[at + 1:]]
                if at == 5 and wrong == f"paper 1 {text}":
                    read_archive(text_of(lines))
                elif at == 5 and not (wrong == "paper" or wrong.startswith("paper ")):
                    # What is not yet a line of a paper is a line of the frame.
                    self.assert_fails(InvalidLine(6), lambda: read_archive(text_of(lines)))
                else:
                    self.assert_fails(InvalidLine(at + 1), lambda: read_archive(text_of(lines)))

    def test_numbers_that_are_not_greater(self):
        for number in (1, 2, 3):
            lines = [*LINES[:7], f"paper {number} present ann fire"]
            self.assert_fails(InvalidLine(8), lambda: read_archive(text_of(lines)))
        self.assertEqual(read_archive(text_of([*LINES[:7], "paper 4 present ann fire"])).size, 3)
        self.assertEqual(read_archive(text_of([*LINES[:5], "paper 1 present ann fire"])).size, 1)

    def test_a_newline_at_the_end(self):
        self.assert_fails(InvalidLine(10), lambda: read_archive(text_of(LINES) + "\n"))
        self.assert_fails(InvalidLine(6), lambda: read_archive(HEAD + "\n"))

    def test_a_paper_that_contradicts_the_others(self):
        lines = [*LINES, "paper 10 apart feast fire 0 -"]
        self.assert_fails(InvalidLine(10), lambda: read_archive(text_of(lines)))
        lines = [*LINES[:8], "paper 8 apart feast fire 0 -", "what"]
        self.assert_fails(InvalidLine(9), lambda: read_archive(text_of(lines)))

    def test_more_than_twenty_papers(self):
        lines = [*LINES[:5], *[f"paper {number} present ann fire" for number in range(1, 22)]]
        self.assertEqual(read_archive(text_of(lines[:-1])).size, 20)
        self.assert_fails(InvalidLine(26), lambda: read_archive(text_of(lines)))

    def test_a_frame_that_no_past_holds(self):
        for more in ("", "\npaper 1 onday a 0 1", "\npaper", "\npaper 1 what"):
            error = self.caught(NoPast, lambda: read_archive(str(UNSORTED) + more))
            self.assertTrue(judge_refutation(UNSORTED, [], error.refutation))

    def test_names_like_words_of_the_text(self):
        frame = Frame(("paper", "last"), ("events",), last=3)
        desk = Desk(frame)
        desk.enter(OnDay("paper", 1, 2), Apart("paper", "last", 1))
        found = read_archive(archive_text(desk))
        self.assertEqual([found.frame, found.listed()], [frame, desk.listed()])


class GreatestFrameTest(Case):
    def test_in_short_time(self):
        begun = process_time()
        desk = Desk(GREAT)
        desk.limit = 20
        desk.enter(*GREAT_PAPERS)
        found = read_archive(archive_text(desk))
        self.assertEqual([found.frame, found.listed()], [GREAT, desk.listed()])
        self.assertLess(process_time() - begun, 8)


if __name__ == "__main__":
    unittest.main()
