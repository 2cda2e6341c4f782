"""The names, the arguments and the kinds of what the interface lists, module by module."""

import importlib
import inspect
import unittest

FUNCTIONS = {
    "cycles": [
        "place_on(cycle, day)", "days_at(cycle, place)", "all_cycles(least, most)", "moved(cycle, days)",
        "turns(cycle, first, last)", "is_whole(inner, outer)", "whole_outers(inner, least, most)",
        "next_day(cycles, places, start)",
    ],
    "remainders": [
        "remainder_row(sightings, length)", "fitting_cycles(sightings, least, most)", "common_divisor(sightings)",
        "shut_lengths(sightings, least, most)", "judge_table(sightings, least, most, table)",
        "gap_places(place, gap, least, most)", "possible_gaps(place, other, least, most, span)",
    ],
    "spans": ["path_sum(network, path)", "judge_ring(network, ring)"],
    "stacks": [
        "play(moves)", "rests(moves)", "stack_moves(put, taken)", "judge_no_moves(put, taken, triple)",
        "taken_lines(put)", "count_taken(many)", "first_taken(put, order)",
    ],
    "sightings": [
        "fitting_stays(notes, last)", "least_stays(notes, last)", "greatest_stays(notes, last)",
        "stay_bounds(notes, last)", "stay_bar(notes, last)", "judge_bar(notes, last, bar)",
        "surely_on(notes, last, day)", "meeting_pairs(notes, other, last)",
    ],
    "nesting": ["nest(stays)", "stretches_of(moves)"],
    "timetables": ["arrivals(timetable, begin, *, silent=())"],
    "ways": ["earliest_way(timetable, begin, person)", "judge_way(timetable, begin, person, way)"],
    "borders": [
        "border(timetable, begin, person, *, by=None, silent=())",
        "judge_border(timetable, begin, person, table, *, by=None, silent=())",
        "gatekeepers(timetable, begin, person, *, by=None)",
    ],
    "deadlines": ["deadlines(timetable, person, by)", "carriers(timetable, begin, person, by)"],
    "sources": ["heard_days(timetable, sources)", "trace(timetable, sources, person)", "beginners(sources)"],
    "rules": ["all_rules(count)"],
    "shelving": [
        "wrong_pairs(rule, shelf)", "strays(rule, shelf)", "slots(rule, shelf, roll)", "fitting_rules(shelf, count)",
        "word_over(rules, roll, other)", "shelf_cut(shelf, count)", "judge_cut(shelf, count, cut)",
    ],
    "demands": ["demand(rule, first, second)", "shelf_demands(rule, shelf)"],
    "aging": [
        "demand_spans(rule, shelf, events)", "possible_rules(network, shelf, events, known)",
        "rule_table(network, shelf, events, known)", "judge_rules(network, shelf, events, known, table)",
        "shelf_between(network, shelf, events, known, before, after)",
    ],
    "variables": [
        "variables(frame)", "values_of(frame, variable)", "part_name(variable)", "point_variable(frame, point)",
    ],
    "house": [
        "house_ties(frame)", "tie_scope(frame, label)", "tie_holds(frame, label, values)", "frame_network(frame)",
    ],
    "past": ["parted(past, other)"],
    "reading": [
        "check_statement(frame, statement)", "check_paper(frame, paper)", "parse_statement(text)", "parse_paper(text)",
    ],
    "ties": [
        "all_ties(frame, papers)", "scope_of(frame, papers, label)", "fits(frame, papers, past)",
        "is_supported(frame, papers, lot, label, variable, value)",
    ],
    "closing": [
        "close(frame, papers=(), lot=None, *, order=())", "trail(frame, papers=(), lot=None, *, order=())",
        "judge_trail(frame, papers, strikes, lot=None)",
    ],
    "bridging": ["bridges(frame, papers, strikes)", "lean_trail(frame, papers, strikes, lot=None)"],
    "search": [
        "pasts(frame, papers=(), lot=None)", "first_past(frame, papers=(), lot=None)",
        "count_pasts(frame, papers=(), *, most=1000)", "true_lot(frame, papers=())",
    ],
    "refuting": ["refute(frame, papers=(), lot=None)", "judge_refutation(frame, papers, refutation, lot=None)"],
    "verdicts": [
        "verdict(frame, papers, claim)", "judge_verdict(frame, papers, claim, verdict)",
        "survey(frame, papers, *claims)",
    ],
    "measures": [
        "days_between(frame, papers, first, second)", "sure_order(frame, papers)", "sure_together(frame, papers)",
        "sure_heard(frame, papers, point)",
    ],
    "conflicts": [
        "conflict(frame, papers)", "least_dropped(frame, papers)", "best_question(frame, papers, *claims)",
    ],
    "archives": ["archive_text(desk)", "read_archive(text)"],
    "tables": ["lot_table(lot)", "past_table(past)"],
}
CLASSES = {
    "residues.Residue": [
        "(place, length)", "first_from(day)", "last_until(day)", "count_in(first, last)", "members(first, last)",
        "part_of(other)", "scaled(factor)", "static every()", "static meet(*residues)",
        "__contains__", "__add__", "__sub__", "__neg__", "__and__", "__eq__", "__str__",
    ],
    "remainders.RemainderTable": ["(rows)"],
    "calendars.Calendar": [
        "(cycles)", "date_of(day)", "place_of(name, day)", "next_with(start, **places)", "property period",
        "class read(text)", "__eq__", "__getitem__", "__add__", "__str__",
    ],
    "spans.Network": [
        "(points, spans=(), *, first=0, last=30)", "is_possible()", "least_days()", "greatest_days()", "slack()",
        "between(before, after)", "lead(before, after)", "closest(before, after)", "tied()",
        "__add__", "__contains__", "__eq__",
    ],
    "orders.Order": [
        "(names, pairs)", "ahead(first, second)", "pairs()", "reduced()", "open_pairs()", "part_of(other)",
        "least_line()", "greatest_line()", "place_bounds(name)", "count_lines()", "lines()", "line_at(number)",
        "number_of(line)", "__contains__", "__or__", "__and__", "__eq__",
    ],
    "stays.Stay": [
        "(come, go)", "property width", "meets(other)", "within(other)", "crosses(other)", "parts_without(other)",
        "static around(days)", "__contains__", "__add__", "__sub__", "__and__", "__or__", "__eq__", "__str__",
    ],
    "sightings.StayBar": ["(kind, indexes)"],
    "staytree.StayTree": [
        "(last)", "property size", "keep(person, stay)", "leave(person)", "nodes_of(person)", "path(day)",
        "who_on(day)", "throughout(stay)", "shape()", "crowd()", "twin()", "__getitem__", "__setitem__", "__contains__",
    ],
    "timetables.Timetable": ["(people, meetings)", "__eq__"],
    "rules.Rule": [
        "(terms)", "compare(first, second)", "direction_of(mark)", "mark_order()", "static plain(*marks)",
        "class read(text)", "__call__", "__neg__", "__add__", "__eq__", "__str__",
    ],
    "shelving.ShelfCut": ["(rows)"],
    "aging.RuleTable": ["(rows)"],
    "frames.Frame": [
        "(events, people=(), meetings=(), cycles=(), marks=(), rolls=(), shelves=(), *, last=10)", "guests(event)",
        "event_of(roll)", "values_of_roll(roll)", "rolls_on(shelf)", "shelf_marks(shelf)", "class read(text)",
        "__eq__", "__str__",
    ],
    "past.Past": [
        "(frame, values)", "faults()", "is_whole()", "day_of(point)", "event_line()", "stay_of(person)", "calendar()",
        "timetable()", "sources()", "rule_of(shelf)", "full_rolls(shelf)", "stray_of(shelf)", "class read(frame, text)",
        "__eq__", "__getitem__", "__str__",
    ],
    "statements.Statement": [
        "(words, positive=True)", "scope(frame)", "holds_with(frame, values)", "holds(past)",
        "__invert__", "__or__", "__eq__", "__str__",
    ],
    "statements.Apart": ["(first, second, least=None, most=None)"],
    "statements.OnDay": ["(point, first, last)"],
    "statements.Dated": ["(point, cycle, place)"],
    "statements.Long": ["(cycle, least, most)"],
    "statements.Whole": ["(inner, outer)"],
    "statements.Present": ["(person, event)"],
    "statements.Together": ["(person, other)"],
    "statements.Heard": ["(person, point)"],
    "statements.Told": ["(teller, hearer, event=None)"],
    "statements.Began": ["(person)"],
    "statements.Rises": ["(shelf, mark)"],
    "statements.Outranks": ["(shelf, mark, other)"],
    "statements.SameRule": ["(shelf, other)"],
    "statements.Astray": ["(shelf, roll=None)"],
    "statements.Filed": ["(shelf, roll, other)"],
    "statements.Piled": ["(lower, upper)"],
    "statements.Clause": [
        "(*statements)", "statements()", "scope(frame)", "holds(past)", "__or__", "__eq__", "__len__", "__str__",
    ],
    "lots.Lot": [
        "(frame, rows=None)", "property size", "only(variable, *values)", "without(variable, *values)",
        "part_of(other)", "is_broken()", "is_empty()", "settled()", "only_past()", "static of(frame, *pasts)",
        "__getitem__", "__and__", "__or__", "__contains__", "__eq__",
    ],
    "refuting.Refutation": ["(strikes, variable, children)", "depth()", "steps()"],
    "verdicts.Verdict": ["(word, witnesses, refutations)"],
    "measures.Measure": ["(least, most, low, high, below, above)"],
    "paperlist.PaperList": [
        "(frame)", "property limit", "property size", "property changes", "enter(*papers)", "withdraw(number)",
        "listed()", "found(number)", "set_limit(value)", "undo()", "redo()", "twin()",
    ],
    "desk.Desk": [
        "(frame)", "enter(*papers)", "twin()", "closed()", "word_on(claim)", "ask(claim)", "asked()", "news()",
        "reopened(*numbers)", "suppose(deed, *papers)",
    ],
}
YIELDING = {"members", "lines", "taken_lines", "fitting_stays", "arrivals", "pasts", "survey"}


def written(function, without_first):
    """The name and the arguments of a function as the interface writes them."""
    rows = list(inspect.signature(function).parameters.values())[1 if without_first else 0:]
    return function.__name__.replace("__init__", "") + str(inspect.Signature(rows))


class InterfaceTest(unittest.TestCase):
    def test_functions(self):
        for module, rows in FUNCTIONS.items():
            for row in rows:
                function = getattr(importlib.import_module(f"fittingpasts.{module}"), row.partition("(")[0])
                self.assertEqual(written(function, False), row)
                self.assertEqual(function.__module__, f"fittingpasts.{module}")
                self.assertEqual(inspect.isgeneratorfunction(function), function.__name__ in YIELDING, row)

    def test_classes_and_their_own_methods(self):
        for path, rows in CLASSES.items():
            module, _, name = path.partition(".")
            kind = getattr(importlib.import_module(f"fittingpasts.{module}"), name)
            self.assertEqual(kind.__module__, f"fittingpasts.{module}")
            for row in rows:
                self.check_method(kind, row)

    def check_method(self, kind, row):
        first, _, rest = row.partition(" ")
        if first in ("static", "class", "property"):
            held = vars(kind)[rest.partition("(")[0]]
            kinds = {"static": staticmethod, "class": classmethod, "property": property}
            self.assertIsInstance(held, kinds[first], row)
            if first != "property":
                self.assertEqual(written(held.__func__, first == "class"), rest)
        elif row.startswith("__"):
            self.assertIn(row, vars(kind))
        else:
            function = vars(kind)[row.partition("(")[0] or "__init__"]
            self.assertEqual(written(function, True), row)
            self.assertEqual(inspect.isgeneratorfunction(function), function.__name__ in YIELDING, row)


if __name__ == "__main__":
    unittest.main()
