"""The head of "The interface": names, arguments, constants, and where they are defined."""

import importlib
import inspect
import unittest

from tiedanew.bench.bench import Bench
from tiedanew.tour.nets import Net
from tiedanew.web.webs import Web

FUNCTIONS = {
    "tiedanew.base.bits": (
        "are_rows(value)", "row_sum(one, other)", "row_product(one, other)", "summed(rows, pick)", "rank_of(rows)",
        "basis_of(rows)", "kernel_of(rows, many)", "solved(rows, goal)", "is_solved(rows, goal, value)",
        "pick_or_look(rows, row)", "is_pick_or_look(rows, row, value)"),
    "tiedanew.web.webs": (
        "table_of(web)", "near(web, knot)", "turned(web, knot)", "turned_by(web, row)", "swung(web, knot, other)",
        "left_out(web, knot)", "lot_web(web, lot)", "renamed(web, order)", "beside(one, other)", "pieces(web)"),
    "tiedanew.web.cuts": (
        "cut_table(web, lot)", "cut_rank(web, lot)", "cut_ranks(web)", "unlike_cut(one, other)",
        "square_of(web, lot)", "is_square(web, lot, value)"),
    "tiedanew.split.splits": (
        "is_split(web, value)", "splits(web)", "split_or_none(web)", "is_split_or_none(web, value)",
        "is_unsplit(web)", "leaves(web)", "twins(web)", "parted(web, lot)", "joined_at(one, other, lot)"),
    "tiedanew.split.partings": (
        "do_cross(web, one, other)", "good_splits(web)", "split_count(web)", "parts(web)", "put_together(told)",
        "are_parts(value)"),
    "tiedanew.ring.rings": (
        "is_ring(value)", "ends_of(ring, name)", "crossing(ring, name)", "web_of(ring)", "turned_ring(ring, name)",
        "swung_ring(ring, name, near)", "left_out_ring(ring, name)", "turned_about(ring, by)", "mirrored(ring)",
        "least_form(ring)", "renamed_ring(ring, order)", "rings_beside(one, other)", "rings_joined(one, other, lot)"),
    "tiedanew.ring.marks": (
        "marks_of(ring)", "sums_of(web)", "are_marks(web, value)", "marks_or_bar(web)", "is_marks_or_bar(web, value)",
        "free_bits(web)", "exchanged_marks(web, marks, lot)", "opposite_marks(marks)",
        "turned_marks(web, marks, knot)", "marks_left(marks, knot)"),
    "tiedanew.ring.found": (
        "walk_of(web)", "ring_by(web, marks)", "are_ring_marks(web, value)", "ring_marks(web)",
        "marks_between(web, one, other)", "is_marks_between(web, one, other, value)"),
    "tiedanew.ring.answers": (
        "ring_or_bar(web)", "is_ring_or_bar(web, value)", "has_ring(web)", "forms_of(web)", "star_ring(many)",
        "tied_ring(many)"),
    "tiedanew.ring.flips": (
        "is_cut(ring, value)", "cuts(ring)", "share_of(ring, cut)", "flipped(ring, cut, word)", "rings_of(web)",
        "flips_or_pair(one, other)", "is_flips_or_pair(one, other, value)"),
    "tiedanew.lesser.steps": (
        "is_steps(web, value)", "web_behind(web, steps)", "staying(web, steps)", "steps_ways(web, knot)",
        "ways_webs(web, knot)", "way_of(web, row, knot)", "lesser_web(web, lot, ways)"),
    "tiedanew.lesser.cores": (
        "core(word)", "core_word(web)", "least_word(web)", "is_least(web)", "ring_or_core(web)",
        "is_ring_or_core(web, value)"),
    "tiedanew.lesser.twigs": (
        "loose_rows(web)", "grown(web, word, other)", "is_order(web, value)", "web_of_order(order)",
        "first_order(web)", "bundles(order)", "order_or_five(web)", "is_order_or_five(web, value)"),
    "tiedanew.kin.sums": (
        "is_member(one, other, value)", "is_good(value)", "member_basis(one, other)",
        "is_member_basis(one, other, value)", "kin_or_bar(one, other)", "is_kin_or_bar(one, other, value)",
        "are_kin(one, other)"),
    "tiedanew.kin.members": (
        "member_of(web, row)", "behind_member(one, other)", "back_member(member)", "letters_of(member)",
        "are_free(web, letters)", "held_or_free(web, letters)", "is_held_or_free(web, letters, value)",
        "led_by(web, letters)"),
    "tiedanew.kin.classes": (
        "choice_count(web)", "self_count(web)", "kin_count(web)", "kin_webs(web)", "least_kin(web)",
        "are_all_kin(web, value)", "named_kin(one, other)", "is_named_kin(one, other, value)"),
    "tiedanew.string.lots": (
        "product_of(one, other)", "does_commute(one, other)", "lot_of(web)", "is_full(value)", "form_of(full)",
        "are_same(full, other)", "within(full, lot)", "exchanged(full, changes)", "free_or_string(full, free)",
        "is_free_or_string(full, free, value)", "web_by(full, free)", "web_in(full)", "is_web_in(full, value)"),
    "tiedanew.string.told": (
        "told_at(full, place, letter)", "told_by(full, tells)", "sure_of(full, tells)", "outcome_count(full, tells)",
        "web_told(web, knot, letter)", "is_web_told(web, knot, letter, value)", "tells_for(web, lesser, lot)",
        "is_tells_for(web, lesser, lot, value)"),
    "tiedanew.tour.nets": (
        "net_of(ring)", "ring_of(net, tour)", "is_tour(net, value)", "tour_of(net)", "turned_tour(net, tour, knot)"),
    "tiedanew.tour.tours": (
        "round_count(net, tour, choice)", "turns_to(net, tour, other)", "is_turns_to(net, tour, other, value)",
        "tour_count(net)", "all_tours(net)", "turns_or_pair(ring, other)", "is_turns_or_pair(ring, other, value)",
        "signed_table(ring)", "line_table(net)", "led_count(net)"),
    "tiedanew.count.lessened": (
        "lot_nullity(web, lot)", "choice_nullity(web, choices)", "lot_counts(web)", "choice_counts(web)",
        "lessened(web, knot, other)", "lessened_thrice(web, knot, other)", "lot_value(web, number)",
        "choice_value(web, number)", "even_lots(web)", "free_choices(web)"),
    "tiedanew.text.texts": (
        "web_text(web)", "read_web(text)", "ring_text(ring)", "read_ring(text)", "marks_text(marks)",
        "read_marks(text)", "steps_text(steps)", "read_steps(text)", "strings_text(lot)", "read_strings(text)",
        "net_text(net)", "read_net(text)"),
    "tiedanew.judge.claims": ("is_claim(value)", "opposite(claim)", "takes(claim, paper)", "answered(claim)"),
}
CONSTANTS = {
    "tiedanew.base.bits": {"MOST_BITS": 144, "MOST_ROWS": 1000},
    "tiedanew.web.webs": {"MOST_KNOTS": 10, "MOST_TURNS": 200},
    "tiedanew.ring.found": {"MOST_LISTED": 5},
    "tiedanew.ring.answers": {"MOST_LISTED": 5},
    "tiedanew.lesser.steps": {"MOST_STEPS": 200},
    "tiedanew.lesser.cores": {"CORES": ("five", "six", "seven"), "MOST_TOLD": 60},
    "tiedanew.lesser.twigs": {"WORDS": ("alone", "leaf", "tied", "untied")},
    "tiedanew.tour.tours": {"MOST_TRIED": 6},
    "tiedanew.count.lessened": {"MOST_CHOSEN": 8, "MOST_FREE": 6},
    "tiedanew.text.texts": {"MOST_TEXT": 20000, "MOST_STEPS": 200},
    "tiedanew.bench.bench": {"MOST_WEBS": 12, "MOST_NAME": 8},
}
CLASSES = {
    "tiedanew.web.webs": (Web, ("knots", "ties"), ("__init__", "__eq__", "__str__", "knots", "ties")),
    "tiedanew.tour.nets": (Net, ("knots", "lines"), ("__init__", "__eq__", "knots", "lines", "is_led")),
    "tiedanew.bench.bench": (Bench, (), (
        "put(name, web)", "drop(name)", "turn(name, knot)", "swing(name, one, two)", "leave(name, knot)",
        "rename(name, order)", "unite(new, name, other)", "undo()", "redo()", "web_of(name)", "ask(name, other)",
        "known(name, other)", "names", "__contains__", "__len__", "__eq__", "__str__")),
}


class Interface(unittest.TestCase):

    def test_functions_and_their_arguments(self):
        for name, told in FUNCTIONS.items():
            module = importlib.import_module(name)
            for line in told:
                function = getattr(module, line.partition("(")[0])
                self.assertTrue(inspect.isfunction(function), line)
                parameters = ", ".join(inspect.signature(function).parameters)
                self.assertEqual(f"{function.__name__}({parameters})", line)
                self.assertEqual(function.__module__, name, line)

    def test_constants(self):
        for name, told in CONSTANTS.items():
            module = importlib.import_module(name)
            for constant, value in told.items():
                self.assertEqual(getattr(module, constant), value)
                self.assertIs(type(getattr(module, constant)), type(value))

    def test_the_classes(self):
        for name, (shape, arguments, told) in CLASSES.items():
            self.assertEqual(shape.__module__, name)
            self.assertEqual(list(inspect.signature(shape).parameters), list(arguments))
            for method in told:
                self.assertIn(method.partition("(")[0], shape.__dict__)
                if method.endswith(")"):
                    function = shape.__dict__[method.partition("(")[0]]
                    parameters = ", ".join(list(inspect.signature(function).parameters)[1:])
                    self.assertEqual(f"{function.__name__}({parameters})", method)


if __name__ == "__main__":
    unittest.main()
