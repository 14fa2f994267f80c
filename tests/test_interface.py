"""The names, arguments and places of the interface, as the document lists them."""

import importlib
import inspect
import unittest

FUNCTIONS = {
    "hedgejoin.shore": [
        "is_name(text)",
        "check_name(text)",
        "step(size, at, *, by=1)",
        "span(size, first, last)",
        "in_span(size, at, first, last)",
        "crossed(one, two)",
    ],
    "hedgejoin.ponds": [
        "sub_pond(pond, lots)",
    ],
    "hedgejoin.partings": [
        "parting_of(pond, groups)",
        "check_parting(pond, parting)",
        "first_crossing(pond, parting)",
        "first_strife(pond, parting)",
        "check_world(pond, parting)",
        "is_world(pond, parting)",
        "world_of(pond, groups)",
        "single_world(pond)",
        "one_world(pond)",
        "format_parting(pond, parting)",
        "parse_parting(pond, text)",
        "code(pond, parting)",
        "from_code(pond, numbers)",
    ],
    "hedgejoin.moves": [
        "likeness_of(key, *, size)",
        "move(pond, parting, likeness)",
        "move_pond(pond, likeness)",
        "restart(pond, parting, lot)",
        "same_place(pond, parting, other_pond, other_parting)",
    ],
    "hedgejoin.fields": [
        "field_of(pond, parting, lot)",
        "next_in_field(pond, parting, lot, *, back=False)",
        "are_together(pond, parting, x, y)",
        "groups_cross(pond, first, second)",
        "within(pond, lower, upper)",
        "first_parted(pond, lower, upper)",
        "parts_of(pond, lower, upper)",
        "cut(pond, first, second)",
        "chain(pond, first, second)",
        "hedges(pond, parting)",
        "from_hedges(pond, pairs)",
        "restrict(pond, parting, lots)",
        "take_out(pond, parting, lots)",
        "sizes_of(pond, parting)",
    ],
    "hedgejoin.deeds": [
        "crossed_fields(pond, world, x, y)",
        "refusal(pond, world, x, y)",
        "join(pond, world, x, y)",
        "plain_deed(pond, world, x, y)",
        "deeds(pond, world)",
        "refused_deeds(pond, world)",
        "pasts(pond, world)",
    ],
    "hedgejoin.rows": [
        "replay(pond, world, row)",
        "trace(pond, world, row)",
        "steps(pond, world, row)",
        "plain_row(pond, world, row)",
        "is_history(pond, start, end, row)",
        "same_history(pond, world, first, second)",
        "ways_at(pond, world, row, at)",
        "exchange(pond, world, row, at, *, by=1)",
    ],
    "hedgejoin.mirror": [
        "mirror(pond, world)",
        "unmirror(pond, paths)",
        "is_mirror(pond, world, paths)",
        "path_of(pond, world, gate)",
        "gates_paper(pond, world, first, second)",
        "next_gate(pond, world, gate)",
        "fields_at(pond, world, gate)",
        "paths_at(pond, world, lot)",
    ],
    "hedgejoin.tree": [
        "way(pond, world, x, y)",
        "is_way(pond, world, x, y, items)",
        "distance(pond, world, x, y)",
        "bring_together(pond, world, x, y)",
        "tree_rows(pond, world)",
        "from_tree(pond, pairs)",
        "deed_path(pond, world, x, y)",
        "parted_path(pond, world, x, y)",
        "branches(pond, world, lot)",
    ],
    "hedgejoin.roads": [
        "leads(pond, start, end)",
        "deeds_needed(pond, start, end)",
        "next_deeds(pond, start, end)",
        "history(pond, start, end)",
        "last_worlds(pond, start, end)",
        "history_through(pond, start, end, stops)",
        "answer(pond, start, goal)",
        "is_answer(pond, start, goal, reply)",
    ],
    "hedgejoin.counts": [
        "count_worlds(size, *, fields=None)",
        "count_by_sizes(sizes)",
        "rank_world(pond, parting, *, alike=False)",
        "world_at(pond, rank, *, fields=None)",
        "all_worlds(pond, *, fields=None)",
        "next_world(pond, parting)",
    ],
    "hedgejoin.smalls": [
        "inner_paths(pond, lower, upper)",
        "small_ponds(pond, lower, upper)",
        "split_world(pond, lower, upper, world)",
        "unite_world(pond, lower, upper, worlds)",
        "deed_small(pond, lower, upper, world, x, y)",
        "small_deed(pond, lower, upper, world, x, y)",
    ],
    "hedgejoin.between": [
        "count_between(pond, lower, upper)",
        "between(pond, lower, upper)",
        "is_between(pond, lower, upper, world)",
        "rank_between(pond, lower, upper, world)",
        "world_between(pond, lower, upper, rank)",
        "level_counts(pond, lower, upper)",
        "fatal_paper(pond, world, goal, x, y)",
        "is_fatal_paper(pond, world, goal, x, y, pair)",
        "fatal_deeds(pond, world, goal)",
    ],
    "hedgejoin.chains": [
        "pond_histories(size)",
        "count_mixes(lengths)",
        "count_histories(pond, lower, upper)",
        "first_deeds(pond, lower, upper)",
        "histories(pond, lower, upper)",
        "rank_history(pond, lower, upper, row)",
        "history_at(pond, lower, upper, rank)",
    ],
    "hedgejoin.shuffles": [
        "split_history(pond, lower, upper, row)",
        "mix_history(pond, lower, upper, schedule, parts)",
    ],
    "hedgejoin.routes": [
        "count_through(pond, lower, upper, stops)",
        "count_avoiding(pond, lower, upper, stops)",
        "history_avoiding(pond, lower, upper, stops)",
        "passed_counts(pond, lower, upper)",
        "count_after(pond, lower, upper, row)",
        "history_after(pond, lower, upper, row)",
    ],
    "hedgejoin.bridges": [
        "exchange_all(pond, start, row, bridge)",
        "find_bridge(pond, start, first, second)",
        "is_bridge(pond, start, first, second, bridge)",
        "middle_worlds(pond, lower, upper)",
        "is_across(pond, lower, upper, row, at)",
        "sorted_row(pond, lower, upper, row)",
        "sorting_bridge(pond, lower, upper, row)",
        "kin_paper(pond, lower, upper, first, second)",
        "kin_distance(pond, lower, upper, first, second)",
        "kin_bridge(pond, lower, upper, first, second)",
        "least_bridge(pond, lower, upper, first, second)",
    ],
    "hedgejoin.commons": [
        "common_past(pond, worlds)",
        "close(pond, parting)",
        "common_future(pond, worlds)",
        "future_paper(pond, worlds)",
        "meeting_costs(pond, first, second)",
        "why_together(pond, partings, x, y)",
        "is_why(pond, partings, x, y, reasons)",
    ],
    "hedgejoin.ends": [
        "is_end(pond, world)",
        "fences(pond, world)",
        "ends(pond, start)",
        "greedy_end(pond, start)",
        "is_end_paper(pond, world, items)",
        "fewest_end(pond, start)",
        "greedy_row(pond, start)",
    ],
    "hedgejoin.strifes": [
        "lifted(pond, parting)",
        "idle_strifes(pond, start)",
        "live_strifes(pond, start)",
        "is_idle_paper(pond, start, strife, other)",
        "core_strifes(pond, start)",
        "least_lift(pond, start, *, fields)",
        "is_lift(pond, start, strifes, *, fields)",
        "reach_number(pond, start)",
        "costly_deeds(pond, world)",
        "thrifty_row(pond, start)",
        "end_counts(pond, start)",
        "row_counts(pond, start)",
    ],
    "hedgejoin.wishes": [
        "is_cure(pond, parting, lots)",
        "least_cure(pond, parting)",
    ],
    "hedgejoin.forms": [
        "form(pond, parting, *, flips=True)",
        "form_key(pond, parting, *, flips=True)",
        "family(pond, parting, *, flips=True)",
        "likenesses(pond, first, second, *, flips=True)",
        "alike(pond, first, second, *, flips=True)",
        "all_forms(size, *, fields=None, flips=True)",
    ],
    "hedgejoin.pieces": [
        "arcs(pond, gates)",
        "gaps(pond, lots)",
        "cut_at_path(pond, world, gates)",
        "glue_at_path(pond, gates, worlds)",
        "cut_at_field(pond, world, lot)",
        "glue_at_field(pond, lots, worlds)",
        "count_at_path(pond, gates)",
        "count_at_field(pond, lots)",
    ],
    "hedgejoin.diary": [
        "least_run(pond, start, moments, sightings)",
    ],
    "hedgejoin.orders": [
        "parse_order(text)",
        "format_order(order)",
        "count_statements(order)",
        "depth_of(order)",
        "order_of(row)",
        "run_order(pond, world, order)",
        "outcome(pond, world, order)",
        "orders_part(pond, first, second)",
    ],
    "hedgejoin.book": [
        "audit(pond, world, rows)",
        "rebuild(pond, world, rows)",
        "compare_books(first, second)",
    ],
}

METHODS = {
    ("hedgejoin.ponds", "Pond"): [
        "__init__(names, *, strifes=())",
        "position(name)",
        "follows(name, *, by=1)",
        "pair_of(x, y)",
        "at_strife(x, y)",
        "bare()",
        "with_strife(x, y)",
        "without_strife(x, y)",
        "same_as(other)",
    ],
    ("hedgejoin.moves", "Likeness"): [
        "__init__(size, *, shift=0, flipped=False)",
    ],
    ("hedgejoin.wishes", "Wish"): [
        "__init__(pond, *, together=(), apart=())",
        "fault(world)",
        "least()",
        "answer()",
        "is_answer(reply)",
        "must()",
        "may()",
        "granting()",
        "greatest()",
        "lifts()",
        "history(start)",
    ],
    ("hedgejoin.diary", "Diary"): [
        "__init__(pond, moments, *, start=None)",
        "see_together(moment, x, y)",
        "see_apart(moment, x, y)",
        "gap(moment, *, least=0, most=None)",
        "is_run(worlds)",
        "fits()",
        "count_runs()",
        "run()",
        "worlds_at(moment)",
        "must(moment)",
        "may(moment)",
        "first_unfit()",
        "is_wrong_set(indexes)",
        "least_wrong()",
        "twin()",
    ],
    ("hedgejoin.book", "Book"): [
        "__init__(pond, *, world=None)",
        "deed(x, y)",
        "lay(x, y)",
        "lift(x, y)",
        "come(name, *, after)",
        "go(name)",
        "claim(goal, reply)",
        "undo()",
        "state_at(place)",
        "history()",
        "verdicts()",
        "twin()",
    ],
}

# Their arguments are passed by position, so only that they stand there is promised.
OPERATORS = {
    ("hedgejoin.ponds", "Pond"): ["__len__", "__iter__"],
    ("hedgejoin.moves", "Likeness"): ["__call__", "__mul__", "__invert__"],
    ("hedgejoin.wishes", "Wish"): ["__call__", "__add__"],
    ("hedgejoin.diary", "Diary"): ["__len__", "__iter__"],
    ("hedgejoin.book", "Book"): ["__len__", "__iter__"],
}

PROPERTIES = {
    ("hedgejoin.ponds", "Pond"): ["names", "strifes"],
    ("hedgejoin.moves", "Likeness"): ["shift", "flipped", "key"],
    ("hedgejoin.wishes", "Wish"): ["pond", "groups", "apart"],
    ("hedgejoin.diary", "Diary"): ["pond", "moments", "start", "sightings", "bounds"],
    ("hedgejoin.book", "Book"): ["pond", "world", "start", "rows"],
}


def arguments_of(function):
    """Name, way of passing and default of each argument; annotations do not matter."""
    return [
        (given.name, given.kind, type(given.default), given.default)
        for given in inspect.signature(function).parameters.values()
    ]


def arguments_in(heading):
    listed = heading[heading.index("(") + 1:heading.rindex(")")]
    return arguments_of(eval(f"lambda {listed}: None"))


class TestInterface(unittest.TestCase):
    def test_functions_stand_in_their_file_with_their_arguments(self):
        for place, headings in FUNCTIONS.items():
            module = importlib.import_module(place)
            for heading in headings:
                with self.subTest(place=place, heading=heading):
                    function = getattr(module, heading[:heading.index("(")])
                    self.assertTrue(inspect.isfunction(function))
                    self.assertEqual(function.__module__, place)
                    self.assertEqual(arguments_of(function), arguments_in(heading))

    def test_methods_stand_in_their_class_with_their_arguments(self):
        for (place, name), headings in METHODS.items():
            owner = getattr(importlib.import_module(place), name)
            self.assertEqual(owner.__module__, place)
            for heading in headings:
                with self.subTest(owner=name, heading=heading):
                    method = vars(owner)[heading[:heading.index("(")]]
                    self.assertEqual(arguments_of(method)[1:], arguments_in(heading))

    def test_operators_stand_in_their_class(self):
        for (place, name), listed in OPERATORS.items():
            owner = getattr(importlib.import_module(place), name)
            for operator in listed:
                with self.subTest(owner=name, operator=operator):
                    self.assertTrue(inspect.isfunction(vars(owner)[operator]))

    def test_properties_stand_in_their_class(self):
        for (place, name), listed in PROPERTIES.items():
            owner = getattr(importlib.import_module(place), name)
            for heading in listed:
                with self.subTest(owner=name, heading=heading):
                    self.assertIsInstance(vars(owner)[heading], property)


if __name__ == "__main__":
    unittest.main()
