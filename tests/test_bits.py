"""Stage 1: rows of bits [1.1] to [1.6]."""

import random
import unittest
from itertools import product

from tests.helper import DEEP, STRAYS, Case, among, bent, bit_rows, is_knot, lots, slow_span
from tiedanew.base.bits import (
    are_rows, basis_of, is_pick_or_look, is_solved, kernel_of, pick_or_look, rank_of, row_product, row_sum, solved,
    summed)
from tiedanew.errors import InvalidBits, InvalidNumber, InvalidOperation
from tiedanew.web.webs import Web

ROWS = ((1, 1, 0, 0), (0, 1, 1, 0), (1, 0, 1, 0))
NOT_ROWS = (
    [], [(0, 1)], ((),), ((0, 1), ()), ((0, 1), (0,)), ((0,), (0, 1)), ((0, 2),), ((0, -1),), ((True, 0),),
    ((0, False),), ([0, 1],), ((0, 1), [0, 1]), ((0, (1,)),), ((0, None),), (("0", "1"),), ("01",), (0, 1),
    ((0,) * 145,), ((0,),) * 1001, ((10 ** 99, 0),), ((10 ** 60,),), None, "01", {0: (0, 1)}, {}, 0, True, Web(1, ()),
    (Web(1, ()),), ((Web(1, ()),),), DEEP)
NOT_ROW = (
    (), [], [0, 1], (0, 2), (-1,), (True,), (1, False), (None,), ("1",), "1", ((0, 1),), (0,) * 145, (10 ** 60,), None,
    0, 1, True, {}, {0: 1}, Web(1, ()), (Web(1, ()),), DEEP)


def slow_product(one, other):
    return len([place for place, bit in enumerate(one) if bit == 1 and other[place] == 1]) % 2


def slow_sum(rows, pick, many):
    return tuple(len([k for k in pick if rows[k][place] == 1]) % 2 for place in range(many))


def head(row):
    return row.index(1)


def small_rows():
    """All lots of at most three rows of one, two or three bits."""
    for many in (1, 2, 3):
        for count in (1, 2, 3):
            yield from product(bit_rows(many), repeat=count)


def drawn_rows(draw, count, many):
    return tuple(tuple(draw.randint(0, 1) for _ in range(many)) for _ in range(count))


class Examples(Case):

    def test_sums(self):
        self.same(row_sum(ROWS[0], ROWS[1]), (1, 0, 1, 0))
        self.same(row_product(ROWS[0], ROWS[2]), 1)
        self.same([summed(ROWS, (0, 1, 2)), summed(ROWS, ()), are_rows(())], [(0, 0, 0, 0), (0, 0, 0, 0), True])

    def test_bases(self):
        self.same([rank_of(ROWS), basis_of(ROWS), kernel_of(ROWS, 4), kernel_of((), 2), basis_of(((0, 0),))], [
            2, ((1, 0, 1, 0), (0, 1, 1, 0)), ((1, 1, 1, 0), (0, 0, 0, 1)), ((1, 0), (0, 1)), ()])

    def test_papers(self):
        self.same(solved(ROWS, (1, 1, 1)), ("bar", (0, 1, 2)))
        self.judged(True, is_solved, ROWS, (1, 1, 0), ("bits", (0, 1, 0, 1)))
        self.judged(True, is_pick_or_look, ROWS, (1, 0, 0, 0), ("look", (1, 1, 1, 0)))

    def test_error(self):
        self.refused(InvalidOperation, summed, ROWS, (1, 0))


class Rows(Case):

    def test_what_rows_are(self):
        right = ((), ((0,),), ((1,), (1,)), ROWS, ((0,) * 144,), ((1,) * 144,) * 3, ((0, 1),) * 1000)
        for rows in right:
            self.judged(True, are_rows, rows)
        for count in (1, 2, 3, 143, 144):
            self.judged(True, are_rows, ((0,) * count,) * 2)
            self.judged(True, are_rows, ((1,),) * count)
        for rows in small_rows():
            self.judged(True, are_rows, rows)

    def test_what_rows_are_not(self):
        for value in NOT_ROWS:
            self.judged(False, are_rows, value)
        for value in STRAYS:
            self.judged(value == (), are_rows, value)
        for value in bent(ROWS):
            self.judged(False, are_rows, value)
        self.judged(False, are_rows, ((10 ** 5000, 1),))


class SumsAndProducts(Case):

    def test_all_short_rows(self):
        for many in (1, 2, 3, 4):
            for one, other in product(bit_rows(many), repeat=2):
                self.same(row_sum(one, other), tuple((a + b) % 2 for a, b in zip(one, other)))
                self.same(row_product(one, other), slow_product(one, other))

    def test_long_rows(self):
        draw = random.Random(1)
        for many in (5, 60, 143, 144):
            one, other = drawn_rows(draw, 2, many)
            self.same(self.told(row_sum, one, other), tuple((a + b) % 2 for a, b in zip(one, other)))
            self.same(self.told(row_product, one, other), slow_product(one, other))
            self.same(row_sum(one, one), (0,) * many)
        self.same(row_product((1,) * 144, (1,) * 144), 0)
        self.same(row_product((1,) * 143, (1,) * 143), 1)

    def test_picks(self):
        draw = random.Random(2)
        for count, many in ((1, 1), (1, 7), (4, 3), (6, 144), (5, 2)):
            rows = drawn_rows(draw, count, many)
            for pick in lots(count):
                self.same(self.told(summed, rows, pick), slow_sum(rows, pick, many))

    def test_a_thousand_rows(self):
        rows = drawn_rows(random.Random(3), 1000, 144)
        self.same(summed(rows, tuple(range(1000))), slow_sum(rows, range(1000), 144))
        self.same(summed(rows, tuple(range(0, 1000, 3))), slow_sum(rows, range(0, 1000, 3), 144))
        self.same(summed(rows, (999,)), rows[999])


class Bases(Case):

    def look_at_basis(self, rows, basis, many):
        """The basis is reduced; who is asked for the span asks elsewhere."""
        heads = [head(row) for row in basis]
        self.assertEqual(heads, sorted(set(heads)))
        for row in basis:
            self.assertEqual([other[head(row)] for other in basis].count(1), 1)
            self.assertEqual(len(row), many)

    def test_against_all_picks(self):
        for rows in small_rows():
            many, span, basis = len(rows[0]), slow_span(rows, len(rows[0])), basis_of(rows)
            self.look_at_basis(rows, basis, many)
            self.assertEqual(slow_span(basis, many), span)
            self.same(rank_of(rows), len(basis))
            self.assertEqual(2 ** rank_of(rows), len(span))

    def test_one_span_exactly_if_one_basis(self):
        told = [(slow_span(rows, 3), basis_of(rows)) for rows in product(bit_rows(3), repeat=2)]
        for span, basis in told:
            for other_span, other_basis in told:
                self.assertEqual(span == other_span, basis == other_basis)

    def test_drawn_rows(self):
        draw = random.Random(4)
        for count, many in ((8, 6), (6, 8), (9, 9), (7, 144), (10, 11)):
            rows = drawn_rows(draw, count, many)
            basis = self.told(basis_of, rows)
            self.look_at_basis(rows, basis, many)
            self.assertEqual(slow_span(basis, many), slow_span(rows, many))
            self.same(self.told(rank_of, rows), len(basis))
            self.same(basis_of(basis), basis)

    def test_edges(self):
        self.same([rank_of(()), basis_of(())], [0, ()])
        for many in (1, 2, 144):
            self.same([rank_of(((0,) * many,) * 3), basis_of(((0,) * many,))], [0, ()])
            self.same([rank_of(((1,) * many,) * 3), basis_of(((1,) * many,) * 2)], [1, ((1,) * many,)])
        units = tuple(tuple(int(k == place) for k in range(144)) for place in range(144))
        steps = tuple(tuple(int(k <= place) for k in range(144)) for place in range(144))
        self.same([rank_of(units), rank_of(steps), basis_of(steps) == units], [144, 144, True])
        self.same(basis_of((steps * 7)[:1000]), units)
        rows = drawn_rows(random.Random(5), 1000, 144)
        self.same([rank_of(rows), basis_of(rows) == units], [144, True])


class Kernels(Case):

    def test_against_all_rows(self):
        for rows in small_rows():
            many = len(rows[0])
            within = {row for row in bit_rows(many) if not any(slow_product(row, other) for other in rows)}
            kernel = kernel_of(rows, many)
            self.assertEqual(slow_span(kernel, many), within)
            self.same(kernel, basis_of(kernel))
            self.assertEqual(len(kernel) + rank_of(rows), many)
            self.same(kernel_of(kernel, many), basis_of(rows))

    def test_drawn_rows(self):
        draw = random.Random(6)
        for count, many in ((3, 8), (8, 8), (12, 9), (20, 144), (100, 144), (1000, 144), (70, 140)):
            rows = drawn_rows(draw, count, many) + ((0,) * many,) * (count < 900)
            kernel = self.told(kernel_of, rows, many)
            self.assertEqual(len(kernel) + rank_of(rows), many)
            self.assertFalse([1 for row in rows[:200] for other in kernel if slow_product(row, other)])
            self.same(kernel, basis_of(kernel))
            self.same(kernel_of(kernel, many), basis_of(rows))

    def test_edges(self):
        for many in (1, 2, 143, 144):
            units = tuple(tuple(int(k == place) for k in range(many)) for place in range(many))
            self.same([kernel_of((), many), kernel_of(((0,) * many,), many)], [units, units])
            self.same(kernel_of(units, many), ())


class BitsOrBar(Case):

    def slow_papers(self, rows, goal):
        many = len(rows[0])
        bits = [("bits", row) for row in bit_rows(many)
                if all(slow_product(row, other) == bit for other, bit in zip(rows, goal))]
        bars = [("bar", pick) for pick in lots(len(rows))
                if slow_sum(rows, pick, many) == (0,) * many and sum(goal[k] for k in pick) % 2 == 1]
        return bits, bars

    def test_either_or_and_all_papers(self):
        for rows in small_rows():
            for goal in bit_rows(len(rows)):
                bits, bars = self.slow_papers(rows, goal)
                self.assertEqual(bool(bits), not bars)
                self.assertIn(self.told(solved, rows, goal), bits + bars)
                for row in bit_rows(len(rows[0])):
                    self.judged(("bits", row) in bits, is_solved, rows, goal, ("bits", row))
                for pick in lots(len(rows)):
                    self.judged(("bar", pick) in bars, is_solved, rows, goal, ("bar", pick))

    def test_all_unknown_rows_are_one_and_the_kernel(self):
        for goal in bit_rows(3):
            bits, _ = self.slow_papers(ROWS, goal)
            if bits:
                one = solved(ROWS, goal)[1]
                shifted = {row_sum(one, row) for row in slow_span(kernel_of(ROWS, 4), 4)}
                self.assertEqual(shifted, {row for _, row in bits})

    def test_drawn_rows(self):
        draw, words = random.Random(8), set()
        for count, many in ((4, 9), (9, 4), (12, 12), (140, 144), (150, 144), (1000, 144), (1000, 10)):
            rows = drawn_rows(draw, count, many)
            unknown, = drawn_rows(draw, 1, many)
            goal = tuple(slow_product(row, unknown) for row in rows)
            found = self.told(solved, rows, goal)
            self.assertEqual(found[0], "bits")
            self.same([slow_product(row, found[1]) for row in rows], list(goal))
            self.judged(True, is_solved, rows, goal, found)
            self.judged(True, is_solved, rows, goal, ("bits", unknown))
            rows, goal = rows + (slow_sum(rows, (0, 2, 3), many),), goal + ((goal[0] + goal[2] + goal[3] + 1) % 2,)
            rows, goal = rows[-1000:], goal[-1000:]
            found = solved(rows, goal)
            words.add(found[0])
            self.judged(True, is_solved, rows, goal, found)
            if len(rows) < 1000:
                self.judged(True, is_solved, rows, goal, ("bar", (0, 2, 3, len(rows) - 1)))
                self.judged(False, is_solved, rows, goal, ("bar", (0, 2, 3)))
        self.assertIn("bar", words)

    def test_edges(self):
        self.same(solved(((0,),), (1,)), ("bar", (0,)))
        self.same(solved(((1,),), (1,)), ("bits", (1,)))
        self.same(solved(((0,) * 144,) * 1000, (0,) * 999 + (1,)), ("bar", (999,)))
        self.same(solved(((0,) * 144,), (0,))[0], "bits")

    def test_wrong_papers(self):
        for goal, right in (((1, 1, 0), ("bits", (0, 1, 0, 1))), ((1, 1, 1), ("bar", (0, 1, 2)))):
            self.judged(True, is_solved, ROWS, goal, right)
            wrong = STRAYS + tuple(bent(right)) + (
                ("bits", (0, 0, 0, 0)), ("bits", (0, 1, 0)), ("bits", (0, 1, 0, 1, 0)), ("bits", ()), ("bar", ()),
                ("bits", (0, 1, 2)), ("bar", (0, 1, 0, 1)), ("bar", (0, 1)), ("bar", (2, 1, 0)), ("bar", (0, 0, 1, 2)),
                ("bar", (0, 1, 2, 3)), ("bar", (0, 1, -1)), ("bar", (-3, -2, -1)), ("look", (0, 1, 0, 1)),
                ("pick", (0, 1, 2)), right[::-1], right[1], (right,), right + right)
            for value in wrong:
                self.judged(False, is_solved, ROWS, goal, value)


class PickOrLook(Case):

    def slow_papers(self, rows, row):
        many = len(row)
        picks = [("pick", pick) for pick in lots(len(rows)) if slow_sum(rows, pick, many) == row]
        looks = [("look", look) for look in bit_rows(many)
                 if slow_product(look, row) == 1 and not any(slow_product(look, other) for other in rows)]
        return picks, looks

    def test_either_or_and_all_papers(self):
        for rows in list(small_rows()) + [()] * 3:
            for many in (len(rows[0]),) if rows else (1, 2, 3):
                for row in bit_rows(many):
                    picks, looks = self.slow_papers(rows, row)
                    self.assertEqual(bool(picks), not looks)
                    self.assertIn(self.told(pick_or_look, rows, row), picks + looks)
                    for pick in lots(len(rows)):
                        self.judged(("pick", pick) in picks, is_pick_or_look, rows, row, ("pick", pick))
                    for look in bit_rows(many):
                        self.judged(("look", look) in looks, is_pick_or_look, rows, row, ("look", look))

    def test_drawn_rows(self):
        draw = random.Random(9)
        for count, many in ((5, 9), (9, 5), (100, 144), (1000, 144), (1000, 12)):
            rows = drawn_rows(draw, count, many)
            row = slow_sum(rows, (1, 2, 4), many)
            found = self.told(pick_or_look, rows, row)
            self.assertEqual(found[0], "pick")
            self.same(summed(rows, found[1]), row)
            self.judged(True, is_pick_or_look, rows, row, found)
            self.judged(True, is_pick_or_look, rows, row, ("pick", (1, 2, 4)))
        rows, (row,) = drawn_rows(draw, 70, 144), drawn_rows(draw, 1, 144)
        found = pick_or_look(rows, row)
        self.assertEqual(found[0], "look")
        self.same([slow_product(found[1], other) for other in rows + (row,)], [0] * 70 + [1])
        self.judged(True, is_pick_or_look, rows, row, found)

    def test_edges(self):
        for many in (1, 2, 144):
            self.same(pick_or_look((), (0,) * many), ("pick", ()))
            self.judged(True, is_pick_or_look, (), (1,) * many, pick_or_look((), (1,) * many))
            self.judged(True, is_pick_or_look, (), (1,) * many, ("look", (0,) * (many - 1) + (1,)))
        self.same(pick_or_look(((0,) * 144,) * 1000, (0,) * 144)[0], "pick")
        self.same(pick_or_look(((0,) * 144,) * 1000, (1,) * 144)[0], "look")

    def test_wrong_papers(self):
        for row, right in (((1, 0, 0, 0), ("look", (1, 1, 1, 0))), ((1, 0, 1, 0), ("pick", (0, 1)))):
            self.judged(True, is_pick_or_look, ROWS, row, right)
            wrong = STRAYS + tuple(bent(right)) + (
                ("look", (1, 1, 1)), ("look", (1, 1, 1, 0, 0)), ("look", ()), ("look", (0, 0, 0, 0)), ("pick", ()),
                ("look", (1, 1, 0, 0)), ("look", (0, 0, 0, 1)), ("pick", (1, 0)), ("pick", (0, 1, 2)), ("pick", (0,)),
                ("pick", (0, 0, 2)), ("pick", (3,)), ("pick", (-1,)), ("pick", (1, 1, 2)), ("bits", (1, 1, 1, 0)),
                ("bar", (0, 1)), right[::-1], right[1], (right,))
            for value in wrong:
                self.judged(False, is_pick_or_look, ROWS, row, value)


class Refusals(Case):

    def test_row(self):
        for value in NOT_ROW:
            for function in (row_sum, row_product):
                self.refused(InvalidBits, function, value, (0, 1))
                self.refused(InvalidBits, function, (0, 1), value)
                self.refused(InvalidBits, function, value, value)
            self.refused(InvalidBits, pick_or_look, ((0, 1),), value)
            self.refused(InvalidBits, pick_or_look, (), value)
            self.refused(InvalidBits, is_pick_or_look, ((0, 1),), value, ("pick", ()))

    def test_rows(self):
        for value in NOT_ROWS:
            self.refused(InvalidBits, summed, value, ())
            self.refused(InvalidBits, rank_of, value)
            self.refused(InvalidBits, basis_of, value)
            self.refused(InvalidBits, kernel_of, value, 2)
            self.refused(InvalidBits, solved, value, (0,))
            self.refused(InvalidBits, is_solved, value, (0,), ("bits", (0,)))
            self.refused(InvalidBits, pick_or_look, value, (0, 1))
            self.refused(InvalidBits, is_pick_or_look, value, (0, 1), ("pick", ()))

    def test_unlike_lengths(self):
        for one, other in (((0,), (0, 1)), ((0, 1), (1,)), ((1,) * 144, (1,) * 143)):
            self.refused(InvalidOperation, row_sum, one, other)
            self.refused(InvalidOperation, row_product, one, other)
            self.refused(InvalidOperation, pick_or_look, (one, one), other)
            self.refused(InvalidOperation, is_pick_or_look, (one,), other, None)
            self.refused(InvalidOperation, kernel_of, (one,), len(other))

    def test_pick(self):
        wrong = STRAYS + ((1, 0), (0, 0), (0, 3), (-1,), (0, True), (False,), [0], (10 ** 60,), (0, 1, 2, 3), ("0",))
        for value in wrong:
            if not among(value, [(), (0,)]):
                self.refused(InvalidOperation, summed, ROWS, value)
        self.refused(InvalidOperation, summed, (), ())
        self.refused(InvalidOperation, summed, (), (0,))
        self.refused(InvalidBits, summed, ((0, 2),), (1, 0))

    def test_many(self):
        for value in STRAYS + (0, 145, -1, 10 ** 60, (4,), [4]):
            if not is_knot(value, 145) or value == 0:
                self.refused_number(InvalidNumber, kernel_of, ROWS, value, at=1)
                self.refused_number(InvalidNumber, kernel_of, (), value, at=1)
        self.refused_number(InvalidNumber, kernel_of, ((1,),), True, at=1)
        for value in (1, 3, 5, 144):
            self.refused(InvalidOperation, kernel_of, ROWS, value)

    def test_goal(self):
        wrong = STRAYS + ((0, 0), (0, 0, 0, 0), (0, 0, 2), (0, 0, -1), (True, 0, 0), [0, 0, 0], "000", (0, 0, None), ())
        for value in wrong:
            self.refused(InvalidBits, solved, ROWS, value)
            self.refused(InvalidBits, is_solved, ROWS, value, ("bits", (0, 0, 0, 0)))
            if value != ():
                self.refused(InvalidBits, solved, (), value)
        self.refused(InvalidOperation, solved, (), ())
        self.refused(InvalidOperation, is_solved, (), (), ("bits", ()))
        self.refused(InvalidOperation, is_solved, (), (), ("bar", ()))

    def test_the_first_error_is_raised(self):
        self.refused_number(InvalidNumber, kernel_of, ROWS, 145, at=1)
        self.refused(InvalidBits, kernel_of, ((2,),), 145)
        self.refused(InvalidBits, row_sum, (0, 1), (0, 1, 2))
        self.refused(InvalidBits, row_sum, (0, 1, 2), (0, 1))
        self.refused(InvalidBits, pick_or_look, ROWS, (0, 2))
        self.refused(InvalidBits, pick_or_look, ((0, 1), (0,)), (0,))
        self.refused(InvalidBits, solved, ((0, 1), (0,)), (0,))


class NotTrue(Case):
    """[1.6]"""

    def test_none_is_true(self):
        self.same(row_product((1, 0), (1, 0)), 1)
        self.assertEqual(len(set(ROWS)), 3)
        self.assertNotEqual(rank_of(ROWS), 3)
        for pick in ((0,), (1,)):
            self.judged(True, is_solved, ((0,), (0,)), (1, 1), ("bar", pick))


if __name__ == "__main__":
    unittest.main()
