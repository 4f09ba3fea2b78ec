"""The head of "The interface": names, arguments, constants, and where they are defined."""

import importlib
import inspect
import unittest

from tiedanew.web.webs import Web

FUNCTIONS = {
    "tiedanew.base.bits": (
        "are_rows(value)", "row_sum(one, other)", "row_product(one, other)", "summed(rows, pick)", "rank_of(rows)",
        "basis_of(rows)", "kernel_of(rows, many)", "solved(rows, goal)", "is_solved(rows, goal, value)",
        "pick_or_look(rows, row)", "is_pick_or_look(rows, row, value)"),
    "tiedanew.web.webs": (
        "table_of(web)", "near(web, knot)", "turned(web, knot)", "turned_by(web, row)", "swung(web, knot, other)",
        "left_out(web, knot)", "lot_web(web, lot)", "renamed(web, order)", "beside(one, other)", "pieces(web)"),
    "tiedanew.web.cuts": (
        "cut_table(web, lot)", "cut_rank(web, lot)", "cut_ranks(web)", "unlike_cut(one, other)",
        "square_of(web, lot)", "is_square(web, lot, value)"),
    "tiedanew.split.splits": (
        "is_split(web, value)", "splits(web)", "split_or_none(web)", "is_split_or_none(web, value)",
        "is_unsplit(web)", "leaves(web)", "twins(web)", "parted(web, lot)", "joined_at(one, other, lot)"),
    "tiedanew.split.partings": (
        "do_cross(web, one, other)", "good_splits(web)", "split_count(web)", "parts(web)", "put_together(told)",
        "are_parts(value)"),
    "tiedanew.ring.rings": (
        "is_ring(value)", "ends_of(ring, name)", "crossing(ring, name)", "web_of(ring)", "turned_ring(ring, name)",
        "swung_ring(ring, name, near)", "left_out_ring(ring, name)", "turned_about(ring, by)", "mirrored(ring)",
        "least_form(ring)", "renamed_ring(ring, order)", "rings_beside(one, other)", "rings_joined(one, other, lot)"),
    "tiedanew.ring.marks": (
        "marks_of(ring)", "sums_of(web)", "are_marks(web, value)", "marks_or_bar(web)", "is_marks_or_bar(web, value)",
        "free_bits(web)", "exchanged_marks(web, marks, lot)", "opposite_marks(marks)",
        "turned_marks(web, marks, knot)", "marks_left(marks, knot)"),
    "tiedanew.ring.found": (
        "walk_of(web)", "ring_by(web, marks)", "are_ring_marks(web, value)", "ring_marks(web)",
        "marks_between(web, one, other)", "is_marks_between(web, one, other, value)"),
    "tiedanew.ring.answers": (
        "ring_or_bar(web)", "is_ring_or_bar(web, value)", "has_ring(web)", "forms_of(web)", "star_ring(many)",
        "tied_ring(many)"),
    "tiedanew.ring.flips": (
        "is_cut(ring, value)", "cuts(ring)", "share_of(ring, cut)", "flipped(ring, cut, word)", "rings_of(web)",
        "flips_or_pair(one, other)", "is_flips_or_pair(one, other, value)"),
    "tiedanew.lesser.steps": (
        "is_steps(web, value)", "web_behind(web, steps)", "staying(web, steps)", "steps_ways(web, knot)",
        "ways_webs(web, knot)", "way_of(web, row, knot)", "lesser_web(web, lot, ways)"),
}
CONSTANTS = {
    "tiedanew.base.bits": {"MOST_BITS": 144, "MOST_ROWS": 1000},
    "tiedanew.web.webs": {"MOST_KNOTS": 10, "MOST_TURNS": 200},
    "tiedanew.ring.found": {"MOST_LISTED": 5},
    "tiedanew.ring.answers": {"MOST_LISTED": 5},
    "tiedanew.lesser.steps": {"MOST_STEPS": 200},
}


class Interface(unittest.TestCase):

    def test_functions_and_their_arguments(self):
        for name, told in FUNCTIONS.items():
            module = importlib.import_module(name)
            for line in told:
                function = getattr(module, line.partition("(")[0])
                self.assertTrue(inspect.isfunction(function), line)
                parameters = ", ".join(inspect.signature(function).parameters)
                self.assertEqual(f"{function.__name__}({parameters})", line)
                self.assertEqual(function.__module__, name, line)

    def test_constants(self):
        for name, told in CONSTANTS.items():
            module = importlib.import_module(name)
            for constant, value in told.items():
                self.assertEqual(getattr(module, constant), value)
                self.assertIs(type(getattr(module, constant)), int)

    def test_the_class(self):
        self.assertEqual(Web.__module__, "tiedanew.web.webs")
        self.assertEqual(list(inspect.signature(Web).parameters), ["knots", "ties"])
        for name in ("__init__", "__eq__", "__str__", "knots", "ties"):
            self.assertIn(name, Web.__dict__)


if __name__ == "__main__":
    unittest.main()
