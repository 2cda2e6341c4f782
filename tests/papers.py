"""Papers for the tests of what fits them, and what is sure by all choices and all pasts, tried one by one."""

from itertools import product

from fittingpasts.frames import Frame
from fittingpasts.house import house_ties, tie_holds, tie_scope
from fittingpasts.lots import Lot
from fittingpasts.past import Past
from fittingpasts.statements import (
    Apart, Astray, Began, Clause, Dated, Filed, Heard, Long, OnDay, Outranks, Piled, Present, Rises, SameRule,
    Statement, Together, Told, Whole,
)
from fittingpasts.variables import values_of, variables
from tests.helpers import Numbers

EVENTS = tuple("event" + letter for letter in "abcdefgh")
PEOPLE = ("ann", "ben", "cid", "dot")


def great_frame(last=20):
    """A frame in which each part is as large as it may be."""
    rolls = [("roll" + letter, EVENTS[at], (at * 7 % 5, at * 3 % 4)) for at, letter in enumerate("abcdefgh")]
    return Frame(
        EVENTS, PEOPLE, [(event, PEOPLE) for event in EVENTS[:4]], [("week", 1, 12), ("month", 1, 12)],
        ("size", "hue"), rolls,
        [("attic", ("rolla", "rollb", "rollc", "rolld", "rolle")),
         ("desk", ("rollh", "rollg", "rollf", "rolle", "rolld"))],
        last=last,
    )


GREAT = great_frame()
# The known marks tell nothing: on both shelves the ages of many events decide, and how is not known.
ALIKE = Frame(
    EVENTS, PEOPLE, [("eventa", PEOPLE[:2])], [("week", 1, 12)], ("size", "hue"),
    [("roll" + letter, event, (0, 0)) for letter, event in zip("abcdefgh", EVENTS)],
    [("attic", ("rolla", "rollb", "rollc", "rolld", "rolle")), ("desk", ("rolle", "rollc", "rolla", "rollf", "rollb"))],
    last=20,
)
# Papers of many kinds that some pasts of the greatest frame fit.
GREAT_PAPERS = [
    Dated("eventa", "week", 0), Dated("eventb", "week", 3), Long("week", 7, 7), Apart("eventa", "eventh", 3, 9),
    Heard("ann", "eventb"), ~Heard("ben", "eventd"), Told("ann", "cid"), Rises("attic", "age"),
    Present("dot", "eventh"), Whole("week", "month") | ~Began("cid") | Astray("desk", "rolle"),
    ~Heard("dot", "eventd") | Apart("eventg", "eventh", 5), ~Together("ann", "ben") | OnDay("dot+", 0, 3),
]
# No past fits, although nothing is struck: three events on two days, each on a day of its own.
CROWDED = [
    *[OnDay(event, 4, 5) for event in EVENTS[5:]],
    *[~Apart(event, other, 0, 0) for event, other in (EVENTS[5:7], EVENTS[6:8], EVENTS[5::2])],
]


def small_frame(numbers):
    events = ["fire", "feast", "fall"][:numbers.between(1, 3)]
    people = ["ann", "ben", "cid"][:numbers.choice([0, 1, 2, 2, 2, 3])]
    meetings = [
        (event, people if numbers.below(2) else people[1::-1])
        for event in events if len(people) > 1 and numbers.below(2)
    ]
    marks = ["size", "hue"][:numbers.choice([0, 0, 1, 1, 2])]
    rolls = [
        (name, numbers.choice(events), [numbers.below(2) for _ in marks])
        for name in ("deed", "will", "note")[:numbers.below(4)]
    ]
    names = [roll[0] for roll in rolls]
    shelves = [("attic", names[::-1]), ("ann", names[:2])][:numbers.below(3)]
    if len(people) > 1:
        shelves = [("attic", names[:2])][numbers.below(4):]
    least = numbers.between(1, 2)
    cycles = [("week", least, least + numbers.below(2)), ("moon", 1, numbers.between(1, 3))][:numbers.below(3)]
    return Frame(
        events, people, meetings, cycles if len(people) < 3 else (), marks, rolls, shelves, last=numbers.between(1, 2)
    )


def makers(numbers, frame):
    """Functions that each make an irregular statement of one kind that suits the frame."""
    pick = numbers.choice
    points = [*frame.events, *[person + end for person in frame.people for end in "+-"]]
    shelves, rolls = [shelf[0] for shelf in frame.shelves], [roll[0] for roll in frame.rolls]
    marks = [*frame.marks, "age"]

    def bound():
        return pick([None, numbers.between(-2, 2)])

    def dated():
        cycle = pick(frame.cycles)
        return Dated(pick(points), cycle[0], numbers.below(cycle[2]))

    found = [
        lambda: Apart(pick(points), pick(points), bound(), bound()),
        lambda: OnDay(pick(points), numbers.between(-1, 2), numbers.between(0, 3)),
    ]
    if frame.cycles:
        found += [
            dated, lambda: Long(pick(frame.cycles)[0], numbers.below(3), numbers.between(1, 3)),
            lambda: Whole(pick(frame.cycles)[0], pick(frame.cycles)[0]),
        ]
    if frame.people:
        found += [
            lambda: Present(pick(frame.people), pick(frame.events)),
            lambda: Together(pick(frame.people), pick(frame.people)),
            lambda: Heard(pick(frame.people), pick(points)), lambda: Began(pick(frame.people)),
            lambda: Told(pick(frame.people), pick(frame.people), pick([None, *frame.events])),
        ]
    if shelves:
        found += [
            lambda: Rises(pick(shelves), pick(marks)), lambda: Outranks(pick(shelves), pick(marks), pick(marks)),
            lambda: SameRule(pick(shelves), pick(shelves)), lambda: Astray(pick(shelves), pick([None, *rolls])),
        ]
    if shelves and rolls:
        found += [lambda: Filed(pick(shelves), pick(rolls), pick(rolls))] * 2
    if rolls:
        found += [lambda: Piled(pick(rolls), pick(rolls))]
    return found


def some_statement(numbers, frame):
    made = numbers.choice(makers(numbers, frame))()
    return made if numbers.below(2) else ~made


def some_papers(numbers, frame, most):
    papers = []
    for _ in range(numbers.below(most + 1)):
        parts = [some_statement(numbers, frame) for _ in range(numbers.choice([1, 1, 1, 2, 2, 3]))]
        papers.append(parts[0] if len(parts) == 1 and numbers.below(2) else Clause(*parts))
    return papers


def some_lot(numbers, frame):
    rows = [values_of(frame, variable) for variable in variables(frame)]
    if numbers.below(2):
        rows = [[value for value in row if numbers.below(6)] for row in rows]
    return Lot(frame, rows)


def many_values(rows):
    many = 1
    for row in rows:
        many *= len(row)
    return many


def cases(seed, many, most_papers=4, most_choices=1500, least_people=0):
    """Small frames with papers, of which all pasts can be tried."""
    numbers = Numbers(seed)
    rows = []
    while len(rows) < many:
        frame = small_frame(numbers)
        choices = many_values([values_of(frame, variable) for variable in variables(frame)])
        if choices <= most_choices and len(frame.people) >= least_people:
            rows.append((frame, some_papers(numbers, frame, most_papers)))
    return rows


def tight_cases(seed, many):
    """Frames of four events and few days, with papers that often contradict each other though none strikes a value."""
    numbers = Numbers(seed)
    rows = []
    for _ in range(many):
        frame = Frame(("a", "b", "c", "d"), cycles=[("week", 1, 2)][numbers.below(2):], last=numbers.between(1, 2))
        papers = [
            Clause(*[
                ~Apart(numbers.choice("abc"), numbers.choice("bcd"), numbers.between(-1, 0), numbers.between(0, 1))
                for _ in range(numbers.choice([1, 1, 2]))
            ]) for _ in range(numbers.between(3, 7))
        ]
        rows.append((frame, papers))
    return rows


def parts_of(paper):
    return [paper] if isinstance(paper, Statement) else paper.statements()


def labelled(frame, papers):
    """The labels of all ties with their scopes."""
    found = [(label, tie_scope(frame, label)) for label in house_ties(frame)]
    return found + [(("paper", at), paper.scope(frame)) for at, paper in enumerate(papers)]


def holds(frame, papers, label, chosen):
    """Whether a tie holds for the values by their variables."""
    if label[0] != "paper":
        return tie_holds(frame, label, [chosen[variable] for variable in tie_scope(frame, label)])
    return any(
        part.holds_with(frame, [chosen[variable] for variable in part.scope(frame)])
        for part in parts_of(papers[label[1]])
    )


def supports(frame, papers, lot, label, scope):
    """The values that a tie supports, as pairs with their variables, by all choices."""
    found = set()
    for values in product(*[lot[variable] for variable in scope]):
        pairs = list(zip(scope, values))
        if holds(frame, papers, label, dict(pairs)):
            found.update(pairs)
    return found


def closed(frame, papers, lot):
    """The greatest closed part of a lot, by striking with all choices."""
    while not lot.is_broken():
        before = lot
        for label, scope in labelled(frame, papers):
            found = supports(frame, papers, lot, label, scope)
            for variable in scope:
                lot = lot.without(variable, *[value for value in lot[variable] if (variable, value) not in found])
        if lot == before:
            return lot
    return Lot(frame, [() for _ in variables(frame)])


def all_fitting(frame, papers, lot=None):
    """All pasts of a lot that fit the papers, ascending, by trying each."""
    names = variables(frame)
    rows = (Lot(frame) if lot is None else lot).rows
    # Each tie is asked as soon as the last variable of its scope has a value.
    ties = [[] for _ in names]
    for label, scope in labelled(frame, papers):
        ties[max(names.index(variable) for variable in scope)].append(label)
    begun = [()]
    for at, row in enumerate(rows):
        begun = [
            (*values, value) for values in begun for value in row
            if all(holds(frame, papers, label, dict(zip(names, (*values, value)))) for label in ties[at])
        ]
    return [Past(frame, values) for values in begun]
