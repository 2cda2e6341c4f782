"""Archives: the text of a frame and its papers."""

from fittingpasts.desk import Desk
from fittingpasts.errors import ArchiveError, InvalidLine
from fittingpasts.frames import Frame
from fittingpasts.paperlist import GREATEST_LIMIT
from fittingpasts.reading import parse_paper
from fittingpasts.words import is_number

MOST_NUMBER_DIGITS = 4


def archive_text(desk):
    """Return the text of the desk's frame and papers."""
    return "\n".join([str(desk.frame), *[f"paper {number} {clause}" for number, clause in desk.listed()]])


def _is_paper_line(line):
    """Return True if from this line on papers are read."""
    return line == "paper" or line.startswith("paper ")


def _words_of(line):
    """Return the number and the text of the clause in the line of a paper, or None."""
    words = line.split(" ", 2)
    if len(words) < 3 or words[0] != "paper" or not is_number(words[1], MOST_NUMBER_DIGITS):
        return None
    return int(words[1]), words[2]


def _read_paper(desk, line, at, greatest):
    """Enter the paper that the line at an index of the text writes, and return its number."""
    words = _words_of(line)
    if words is None or words[0] <= greatest:
        raise InvalidLine(at + 1)
    number, text = words
    desk.skip_to(number)
    try:
        desk.enter(parse_paper(text))
    except ArchiveError:
        raise InvalidLine(at + 1) from None
    return number


def read_archive(text):
    """Return the desk with the frame and the papers that the text writes."""
    lines = text.split("\n")
    starts = [at for at, line in enumerate(lines) if _is_paper_line(line)]
    start = starts[0] if starts else len(lines)
    desk = Desk(Frame.read("\n".join(lines[:start])))
    desk.set_limit(GREATEST_LIMIT)
    greatest = 0
    for at in range(start, len(lines)):
        greatest = _read_paper(desk, lines[at], at, greatest)
    # A twin has nothing to undo.
    return desk.twin()
