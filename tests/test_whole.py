"""What the parts say of the same events, each with its own certificates, and what all pasts together say."""

import unittest

from fittingpasts.aging import judge_rules, possible_rules, rule_table, shelf_between
from fittingpasts.borders import border, gatekeepers, judge_border
from fittingpasts.bridging import bridges
from fittingpasts.closing import close, trail
from fittingpasts.errors import NoCompletion
from fittingpasts.frames import Frame
from fittingpasts.house import frame_network
from fittingpasts.measures import days_between, sure_order
from fittingpasts.past import Past
from fittingpasts.refuting import judge_refutation, refute
from fittingpasts.remainders import fitting_cycles, judge_table, shut_lengths
from fittingpasts.search import first_past, pasts, true_lot
from fittingpasts.shelving import fitting_rules, judge_cut, shelf_cut
from fittingpasts.sightings import judge_bar, stay_bar, stay_bounds, surely_on
from fittingpasts.spans import judge_ring
from fittingpasts.statements import (
    Apart, Astray, Began, Clause, Dated, Filed, Heard, Long, OnDay, Present, Statement, Told,
)
from fittingpasts.timetables import Timetable
from fittingpasts.verdicts import survey, verdict
from tests.helpers import Case, Numbers
from tests.papers import EVENTS, cases, parts_of, some_statement, tight_cases
from tests.test_search import FITTING


def word_of(frame, papers, claim):
    return next(survey(frame, papers, claim))[1]


def on(event, day):
    return OnDay(event, day, day)


class OrdersTest(Case):
    def test_rings_and_completions(self):
        numbers = Numbers(1)
        possible = 0
        for _ in range(40):
            frame = Frame(EVENTS[:4], ("ann", "ben"), [("eventa", ("ben", "ann"))], last=numbers.between(3, 8))
            points = frame_network(frame).points
            spans = [
                (numbers.choice(points), numbers.choice(points), numbers.between(-2, 4))
                for _ in range(numbers.between(2, 6))
            ]
            papers = [Apart(before, after, least) for before, after, least in spans]
            network = frame_network(frame)
            for span in spans:
                network = network + span
            if not network.is_possible():
                ring = self.caught(NoCompletion, network.least_days).ring
                self.assertTrue(judge_ring(network, ring))
                self.assertTrue(judge_refutation(frame, papers, refute(frame, papers)))
                continue
            possible += 1
            lot = true_lot(frame, papers)
            for at, event in enumerate(frame.events):
                self.assertEqual(lot[("day", event)][0], network.least_days()[at])
                self.assertEqual(lot[("day", event)][-1], network.greatest_days()[at])
            first, second = numbers.choice(points), numbers.choice(points)
            found = days_between(frame, papers, first, second)
            self.assertEqual((found.least, found.most), network.between(first, second))
            order = sure_order(frame, papers)
            for event in frame.events:
                for other in frame.events:
                    sure = event != other and network.between(event, other)[0] >= 1
                    self.assertIs((event, other) in order, sure)
        self.assertGreater(possible, 10)
        self.assertLess(possible, 40)


class CyclesTest(Case):
    def test_shut_lengths(self):
        numbers = Numbers(2)
        shut = 0
        for _ in range(40):
            frame = Frame(EVENTS[:3], cycles=[("week", 1, 6)], last=20)
            sightings = [(numbers.below(21), numbers.below(5)) for _ in range(3)]
            papers = [on(event, day) for event, (day, _) in zip(frame.events, sightings)]
            papers += [Dated(event, "week", place) for event, (_, place) in zip(frame.events, sightings)]
            table = shut_lengths(sightings, 1, 6)
            self.assertTrue(judge_table(sightings, 1, 6, table))
            self.assertEqual(list(true_lot(frame, papers)[("cycle", "week")]), fitting_cycles(sightings, 1, 6))
            if len(table.rows) == 6:
                self.assertIsNone(first_past(frame, papers))
                continue
            for length in range(1, 7):
                gone = length in [row[0] for row in table.rows]
                self.assertIs(word_of(frame, papers, Long("week", length, length)) == "never", gone)
                shut += gone
        self.assertGreater(shut, 15)


class StaysTest(Case):
    def test_bars_and_bounds(self):
        numbers = Numbers(3)
        barred = 0
        for _ in range(40):
            last = numbers.between(2, 7)
            frame = Frame(EVENTS[:4], ("ann",), last=last)
            notes = [(numbers.below(last + 1), numbers.below(3) == 0) for _ in range(3)]
            papers = [on(event, day) for event, (day, _) in zip(EVENTS, notes)]
            for event, (_, seen) in zip(EVENTS, notes):
                papers.append(Present("ann", event) if seen else ~Present("ann", event))
            bar = stay_bar(notes, last)
            if bar is not None:
                self.assertTrue(judge_bar(notes, last, bar))
                self.assertEqual(word_of(frame, papers, Present("ann", "eventd")), "void")
                barred += 1
                continue
            stays = true_lot(frame, papers)[("stay", "ann")]
            comings, goings = [come for come, _ in stays], [go for _, go in stays]
            bounds = (min(comings), max(comings), min(goings), max(goings))
            self.assertEqual(stay_bounds(notes, last), bounds)
            for day in range(last + 1):
                word = word_of(frame, [*papers, on("eventd", day)], Present("ann", "eventd"))
                self.assertEqual(word, surely_on(notes, last, day))
        self.assertGreater(barred, 3)


class TellingsTest(Case):
    def test_borders_and_gatekeepers(self):
        numbers = Numbers(4)
        shut, kept = 0, 0
        people = ("ann", "ben", "cid", "dot")
        for _ in range(30):
            met = [
                (event, [person for person in people if numbers.below(3)]) for event in EVENTS[:3]
            ]
            met = [(event, guests) for event, guests in met if len(guests) > 1]
            days = {event: numbers.below(6) for event in EVENTS[:4]}
            frame = Frame(EVENTS[:4], people, met, last=5)
            table = Timetable(people, [((days[event],), guests) for event, guests in met])
            papers = [*[on(event, day) for event, day in days.items()], Began("ann")]
            by = days["eventd"]
            for person in people[1:]:
                wall = border(table, "ann", person, by=by)
                word = word_of(frame, papers, Heard(person, "eventd"))
                self.assertEqual(word, "open" if wall is None else "never")
                if wall is not None:
                    self.assertTrue(judge_border(table, "ann", person, wall, by=by))
                    shut += 1
                    continue
                # All ways pass the gatekeepers: who had heard on the day, had it by them.
                claims = [Heard(keeper, "eventd") for keeper in gatekeepers(table, "ann", person, by=by)]
                heard = [*papers, Heard(person, "eventd")]
                self.assertEqual({word for _, word in survey(frame, heard, *claims)}, {"sure"})
                kept += len(claims) > 1
        self.assertGreater(shut, 10)
        self.assertGreater(kept, 1)


class ShelvesTest(Case):
    def frame(self, numbers):
        marks = ("size", "hue")[:numbers.below(3)]
        rolls = [(name, numbers.choice(EVENTS[:3]), [numbers.below(3) for _ in marks]) for name in "rstu"]
        return Frame(
            EVENTS[:3], marks=marks, rolls=rolls, shelves=[("x", tuple("rstu"[:numbers.between(2, 4)]))], last=4
        )

    def test_cuts(self):
        numbers = Numbers(5)
        unsorted = 0
        for _ in range(40):
            frame = self.frame(numbers)
            days = {event: numbers.below(5) for event in frame.events}
            papers = [*[on(event, day) for event, day in days.items()], ~Astray("x")]
            shelf = [(*frame.values_of_roll(roll), days[frame.event_of(roll)]) for roll in frame.rolls_on("x")]
            count = len(frame.marks) + 1
            cut = shelf_cut(shelf, count)
            self.assertTrue(judge_cut(shelf, count, cut))
            right = [rule.terms for rule in fitting_rules(shelf, count)]
            self.assertEqual(list(true_lot(frame, papers)[("rule", "x")]), right)
            unsorted += not right
            if right:
                for roll in "rstu":
                    claim = Filed("x", roll, "r")
                    word = word_of(frame, papers, claim)
                    found = {claim.holds(past) for past in pasts(frame, papers)}
                    self.assertEqual(word, "open" if len(found) > 1 else "sure" if True in found else "never")
        self.assertGreater(unsorted, 3)

    def test_rules_by_days_that_are_not_known(self):
        numbers = Numbers(6)
        impossible = 0
        for _ in range(40):
            frame = self.frame(numbers)
            spans = [
                (numbers.choice(frame.events), numbers.choice(frame.events), numbers.between(-1, 2)) for _ in range(2)
            ]
            papers = [*[Apart(before, after, least) for before, after, least in spans], ~Astray("x")]
            network = frame_network(frame)
            for span in spans:
                network = network + span
            rolls, known = frame.rolls_on("x"), len(frame.marks)
            shelf, events = frame.shelf_marks("x"), [frame.event_of(roll) for roll in rolls]
            table = rule_table(network, shelf, events, known)
            self.assertTrue(judge_rules(network, shelf, events, known, table))
            rules = possible_rules(network, shelf, events, known)
            if not network.is_possible():
                rules = []
            self.assertEqual(list(true_lot(frame, papers)[("rule", "x")]), [rule.terms for rule in rules])
            if rules:
                found = days_between(frame, papers, "eventa", "eventb")
                right = shelf_between(network, shelf, events, known, "eventa", "eventb")
                self.assertEqual((found.least, found.most), right)
            impossible += len(table.rows) > 0
        self.assertGreater(impossible, 20)


class JoinedTest(Case):
    def test_one_fact_leads_through_all_parts(self):
        # A dated day bounds a telling, the telling orders two events, their order tells a rule,
        # the rule orders another roll, and a stay that bounds its day shuts a length.
        frame = Frame(
            ("feast", "fire", "fall", "fair"), ("ann", "ben", "cid"), [("feast", ("ann", "ben"))],
            [("week", 3, 5), ("moon", 2, 3)], (),
            [("deed", "feast", ()), ("will", "fire", ()), ("note", "fair", ())],
            [("attic", ("will", "deed")), ("desk", ("will", "note"))], last=8,
        )
        papers = [
            on("fall", 2), Long("week", 4, 4), Dated("fall", "week", 0), Dated("feast", "week", 0),
            OnDay("ben+", 3, 5), Told("ann", "ben"), ~Heard("ben", "fire"), OnDay("fire", 4, 8), ~Astray("attic"),
            Statement(("samerule", "attic", "desk")), ~Astray("desk"), Present("cid", "fair"), OnDay("cid-", 0, 4),
            Dated("fall", "moon", 0), Dated("fair", "moon", 0),
        ]
        lot = close(frame, papers)
        self.assertEqual(lot[("cycle", "week")], ((4, 2),))
        self.assertEqual(lot[("day", "feast")], (6,))
        self.assertEqual([lot[("heard", "ben")], lot[("heard", "ann")]], [(6,), (0,)])
        self.assertEqual(lot[("day", "fire")], (4,))
        self.assertEqual([lot[("rule", "attic")], lot[("rule", "desk")]], [(((0, 1),),)] * 2)
        self.assertEqual(lot[("day", "fair")], (4,))
        self.assertEqual(lot[("cycle", "moon")], ((2, 0),))
        self.assertEqual(word_of(frame, papers, Long("moon", 3, 3)), "never")
        self.assertEqual(word_of(frame, papers[:12] + papers[13:], Long("moon", 3, 3)), "open")
        found = bridges(frame, papers, trail(frame, papers))
        for bridge in (
            ("cycles", "orders"), ("orders", "cycles"), ("orders", "shelves"), ("orders", "stays"),
            ("orders", "tellings"), ("shelves", "orders"), ("stays", "orders"), ("tellings", "orders"),
        ):
            self.assertIn(bridge, found)


class PapersTest(Case):
    def test_more_papers_never_make_a_past_fit(self):
        numbers = Numbers(7)
        for frame, papers, right in FITTING[:120]:
            more = [*papers, some_statement(numbers, frame)]
            fewer = list(pasts(frame, more))
            self.assertEqual(fewer, [past for past in right if more[-1].holds(past)])
            for past in fewer:
                self.assertIn(past, right)
            self.assertTrue(true_lot(frame, more).part_of(true_lot(frame, papers)))
            self.assertTrue(close(frame, more).part_of(close(frame, papers)))

    def test_any_order_of_the_papers(self):
        numbers = Numbers(8)
        for frame, papers, _ in FITTING[:150]:
            claims = [some_statement(numbers, frame) for _ in range(3)]
            turned = sorted(papers, key=lambda _: numbers.below(1000))
            self.assertEqual(list(survey(frame, papers, *claims)), list(survey(frame, turned, *claims)))
            self.assertEqual(first_past(frame, papers), first_past(frame, turned))
            self.assertEqual(true_lot(frame, papers), true_lot(frame, turned))

    def test_other_names_for_the_same_things(self):
        numbers = Numbers(9)
        seen = set()
        for frame, papers in cases(50, 60, most_choices=6000) + tight_cases(50, 40):
            claims = [some_statement(numbers, frame) for _ in range(4)]
            other = renamed_frame(frame)
            more = [Clause(*[renamed(part) for part in parts_of(paper)]) for paper in papers]
            words = list(survey(frame, papers, *claims))
            self.assertEqual(list(survey(other, more, *[renamed(claim) for claim in claims])), words)
            for claim, (_, word) in zip(claims, words):
                seen.add(word)
                found, same = verdict(frame, papers, claim), verdict(other, more, renamed(claim))
                self.assertEqual(found.word, same.word)
                self.assertEqual(
                    [Past(other, [renamed_value(value) for value in past.assigned]) for past in found.witnesses],
                    list(same.witnesses),
                )
        self.assertEqual(seen, {"void", "sure", "never", "open"})


def other_name(name):
    """Another name for a name, or for the name in a point; the age is always called so."""
    if name in ("", "age") or not isinstance(name, str):
        return name
    end = name[-1] if name[-1] in "+-" else ""
    return name.rstrip("+-")[::-1] + "q" + end


def renamed(statement):
    kind, *words = statement.words
    return Statement((kind, *[other_name(word) for word in words]), statement.positive)


def renamed_value(value):
    return tuple(renamed_value(part) for part in value) if isinstance(value, tuple) else other_name(value)


def renamed_frame(frame):
    parts = [frame.events, frame.people, frame.meetings, frame.cycles, frame.marks, frame.rolls, frame.shelves]
    return Frame(*[renamed_value(part) for part in parts], last=frame.last)


if __name__ == "__main__":
    unittest.main()
