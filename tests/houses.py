"""Frames for the tests of frames, pasts and statements."""

from fittingpasts.frames import Frame
from fittingpasts.variables import values_of, variables
from tests.helpers import Numbers

# Two events, two people who met at one of them.
PAIR = Frame(("fire", "feast"), ("ann", "ben"), [("feast", ("ann", "ben"))], last=6)
# Something of everything, and the same name for things of different kinds.
FULL = Frame(
    ("fire", "feast", "fall"),
    ("ann", "ben", "cid"),
    [("feast", ("cid", "ann")), ("fire", ("ben", "cid", "ann"))],
    [("week", 2, 3), ("ann", 1, 1)],
    ("size", "fire"),
    [("deed", "feast", (3, -4)), ("will", "fire", (0, 0)), ("note", "feast", (3, 7)), ("ann", "fall", (-1, 7))],
    [("attic", ("note", "ann", "deed")), ("ann", ("ann", "will"))],
    last=4,
)
TEXT = """last 4
events fire feast fall
people ann ben cid
meeting feast cid ann
meeting fire ben cid ann
cycle week 2 3
cycle ann 1 1
marks size fire
roll deed feast 3 -4
roll will fire 0 0
roll note feast 3 7
roll ann fall -1 7
shelf attic note ann deed
shelf ann ann will"""


def some_names(numbers, words, least):
    rows = [word for word in words if numbers.below(2)]
    return rows if len(rows) >= least else words[:least]


def irregular_frame(numbers):
    events = some_names(numbers, ["fire", "feast", "fall", "fair"], 1)
    people = some_names(numbers, ["ann", "ben", "cid", "dot"], 0)
    met = [event for event in events if len(people) > 1 and numbers.below(2)]
    meetings = [(event, some_names(numbers, people[::-1], 2)) for event in met]
    marks = some_names(numbers, ["size", "hue"], 0)
    rolls = [
        (name, numbers.choice(events), [numbers.between(-1, 1) for _ in marks])
        for name in ("deed", "will", "note", "map")
    ]
    least = numbers.between(1, 3)
    return Frame(
        events, people, meetings, [("week", least, least + numbers.below(3))][numbers.below(2):], marks, rolls,
        [("attic", some_names(numbers, ["note", "deed", "map"], 0)), ("desk", ["will", "deed"])][numbers.below(3):],
        last=numbers.between(1, 6),
    )


def irregular_values(numbers, frame):
    return [numbers.choice(values_of(frame, variable)) for variable in variables(frame)]


def irregular_frames(seed, many):
    numbers = Numbers(seed)
    return [irregular_frame(numbers) for _ in range(many)]
