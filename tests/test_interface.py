"""The head of "The interface": names, arguments, constants, and where they are defined."""

import importlib
import inspect
import unittest

from tiedanew.web.webs import Web

FUNCTIONS = {
    "tiedanew.base.bits": (
        "are_rows(value)", "row_sum(one, other)", "row_product(one, other)", "summed(rows, pick)", "rank_of(rows)",
        "basis_of(rows)", "kernel_of(rows, many)", "solved(rows, goal)", "is_solved(rows, goal, value)",
        "pick_or_look(rows, row)", "is_pick_or_look(rows, row, value)"),
    "tiedanew.web.webs": (
        "table_of(web)", "near(web, knot)", "turned(web, knot)", "turned_by(web, row)", "swung(web, knot, other)",
        "left_out(web, knot)", "lot_web(web, lot)", "renamed(web, order)", "beside(one, other)", "pieces(web)"),
    "tiedanew.web.cuts": (
        "cut_table(web, lot)", "cut_rank(web, lot)", "cut_ranks(web)", "unlike_cut(one, other)",
        "square_of(web, lot)", "is_square(web, lot, value)"),
    "tiedanew.split.splits": (
        "is_split(web, value)", "splits(web)", "split_or_none(web)", "is_split_or_none(web, value)",
        "is_unsplit(web)", "leaves(web)", "twins(web)", "parted(web, lot)", "joined_at(one, other, lot)"),
    "tiedanew.split.partings": (
        "do_cross(web, one, other)", "good_splits(web)", "split_count(web)", "parts(web)", "put_together(told)",
        "are_parts(value)"),
    "tiedanew.ring.rings": (
        "is_ring(value)", "ends_of(ring, name)", "crossing(ring, name)", "web_of(ring)", "turned_ring(ring, name)",
        "swung_ring(ring, name, near)", "left_out_ring(ring, name)", "turned_about(ring, by)", "mirrored(ring)",
        "least_form(ring)", "renamed_ring(ring, order)", "rings_beside(one, other)", "rings_joined(one, other, lot)"),
    "tiedanew.ring.marks": (
        "marks_of(ring)", "sums_of(web)", "are_marks(web, value)", "marks_or_bar(web)", "is_marks_or_bar(web, value)",
        "free_bits(web)", "exchanged_marks(web, marks, lot)", "opposite_marks(marks)",
        "turned_marks(web, marks, knot)", "marks_left(marks, knot)"),
}
CONSTANTS = {
    "tiedanew.base.bits": {"MOST_BITS": 144, "MOST_ROWS": 1000},
    "tiedanew.web.webs": {"MOST_KNOTS": 10, "MOST_TURNS": 200},
}


class Interface(unittest.TestCase):

    def test_functions_and_their_arguments(self):
        for name, told in FUNCTIONS.items():
            module = importlib.import_module(name)
            for line in told:
                function = getattr(module, line.partition("(")[0])
                self.assertTrue(inspect.isfunction(function), line)
                parameters = ", ".join(inspect.signature(function).parameters)
                self.assertEqual(f"{function.__name__}({parameters})", line)
                self.assertEqual(function.__module__, name, line)

    def test_constants(self):
        for name, told in CONSTANTS.items():
            module = importlib.import_module(name)
            for constant, value in told.items():
                self.assertEqual(getattr(module, constant), value)
                self.assertIs(type(getattr(module, constant)), int)

    def test_the_class(self):
        self.assertEqual(Web.__module__, "tiedanew.web.webs")
        self.assertEqual(list(inspect.signature(Web).parameters), ["knots", "ties"])
        for name in ("__init__", "__eq__", "__str__", "knots", "ties"):
            self.assertIn(name, Web.__dict__)


if __name__ == "__main__":
    unittest.main()
