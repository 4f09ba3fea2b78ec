"""Stage 3: cut ranks [3.1] to [3.6], and ranks that stay [0.13]."""

import random
import unittest
from itertools import combinations

from tests.helper import (
    PATH, ROUND, STAR, STRAYS, WHEEL, Case, all_webs, among, bent, drawn_webs, edge_webs, full_web, joined, lots,
    path_web, round_web, slow_cut_rank, slow_pieces, slow_rank, slow_table, webs_up_to)
from tests.test_webs import NO_WEBS
from tiedanew.errors import InvalidLot, InvalidOperation, InvalidWeb
from tiedanew.web.cuts import cut_rank, cut_ranks, cut_table, is_square, square_of, unlike_cut
from tiedanew.web.webs import Web, beside, left_out, lot_web, swung, turned, turned_by

SMALL = list(webs_up_to(4))
TRIED = SMALL + drawn_webs(12, most=7, seed=21)
NO_LOTS = tuple(value for value in STRAYS if not among(value, [()])) + (
    (1, 0), (0, 0), (0, 4), (-1, 0), (0, True), (False, 1), [0, 1], [], "01", ((0,),), (0, 10 ** 60), {0: 1}, (0, None))


def all_without_first(web):
    return [tuple(v for v in range(1, web.knots) if k >> (v - 1) & 1) for k in range(2 ** (web.knots - 1))]


class Examples(Case):

    def test_ranks(self):
        self.same([cut_table(PATH, (0, 2)), cut_rank(PATH, (0, 2)), cut_rank(PATH, (0, 1))], [((1, 0), (1, 1)), 2, 1])
        self.same([cut_rank(STAR, (1, 2)), cut_rank(STAR, ())], [1, 0])

    def test_all_ranks(self):
        self.same([cut_ranks(PATH), cut_ranks(turned(PATH, 1)) == cut_ranks(PATH)], [(0, 1, 1, 2, 1, 2, 1, 1), True])
        self.same([unlike_cut(PATH, STAR), unlike_cut(PATH, swung(PATH, 1, 2))], [(1, 2), None])

    def test_squares(self):
        self.same(square_of(STAR, (1, 2))[1], (0,))
        self.judged(True, is_square, PATH, (0, 2), ((0, 2), (1, 3)))
        self.judged(True, is_square, PATH, (0, 2), ((2,), (3,)))
        self.judged(False, is_square, STAR, (1, 2), ((1, 2), (0, 3)))

    def test_error(self):
        self.refused(InvalidLot, cut_rank, PATH, (2, 1))


class CutRanks(Case):

    def test_tables_and_ranks_of_all_lots(self):
        for web in TRIED:
            for lot in lots(web.knots):
                self.same(self.told(cut_table, web, lot), slow_table(web, lot))
                self.same(self.told(cut_rank, web, lot), slow_cut_rank(web, lot))

    def test_ten_knots(self):
        draw = random.Random(22)
        for web in [web for web in edge_webs() + drawn_webs(5, least=9) if web.knots > 8]:
            for lot in [(), tuple(range(web.knots)), (0,), (9,)[:web.knots - 9], (0, 1, 2, 3, 4), (0, 2, 4, 6, 8)] + [
                    tuple(sorted(draw.sample(range(web.knots), draw.randint(1, 9)))) for _ in range(6)]:
                self.same(cut_table(web, lot), slow_table(web, lot))
                self.same(cut_rank(web, lot), slow_cut_rank(web, lot))

    def test_a_lot_and_all_beyond_it(self):
        for web in TRIED:
            for lot in lots(web.knots):
                beyond = tuple(v for v in range(web.knots) if v not in lot)
                self.same(cut_rank(web, lot), cut_rank(web, beyond))
            self.same([cut_rank(web, ()), cut_rank(web, tuple(range(web.knots)))], [0, 0])
            self.same([cut_table(web, ()), cut_table(web, tuple(range(web.knots)))], [(), ()])

    def test_in_their_sequence(self):
        for web in TRIED + [Web(1, ()), full_web(7)]:
            self.same(self.told(cut_ranks, web), tuple(slow_cut_rank(web, lot) for lot in all_without_first(web)))
        for web in (Web(10, ()), full_web(10), path_web(10), round_web(10)):
            ranks = cut_ranks(web)
            self.assertEqual(len(ranks), 512)
            for k in (0, 1, 2, 5, 64, 256, 300, 341, 510, 511):
                self.same(ranks[k], slow_cut_rank(web, all_without_first(web)[k]))
        self.same([cut_ranks(Web(1, ())), cut_ranks(Web(2, ())), cut_ranks(Web(2, ((0, 1),)))], [(0,), (0, 0), (0, 1)])


class KeptByTurns(Case):

    def test_turns_keep_all(self):
        for web in TRIED + drawn_webs(3, least=10, seed=23):
            ranks = cut_ranks(web)
            for knot in range(web.knots):
                self.same(cut_ranks(turned(web, knot)), ranks)
                self.same(unlike_cut(web, turned(web, knot)), None)
        for row in ((0, 1, 2, 3, 4), (5, 4, 3, 0), (0, 1, 0, 5, 2, 2, 3)):
            self.same(cut_ranks(turned_by(WHEEL, row)), cut_ranks(WHEEL))

    def test_least_unlike_cut(self):
        some = list(all_webs(4))[::3] + [PATH, STAR]
        for one in some:
            for other in some:
                unlike = [lot for lot in all_without_first(one) if slow_cut_rank(one, lot) != slow_cut_rank(other, lot)]
                self.same(unlike_cut(one, other), min(unlike) if unlike else None)

    def test_least_unlike_cut_of_greater_webs(self):
        webs = [web for web in drawn_webs(60, most=6, seed=24) if web.knots == 6]
        for one, other in zip(webs, webs[1:]):
            unlike = [lot for lot in all_without_first(one) if slow_cut_rank(one, lot) != slow_cut_rank(other, lot)]
            self.same(self.told(unlike_cut, one, other), min(unlike) if unlike else None)
        self.same(unlike_cut(full_web(10), Web(10, ())), (1,))
        self.same(unlike_cut(Web(10, ()), Web(10, ((8, 9),))), (1, 2, 3, 4, 5, 6, 7, 8))
        self.same(unlike_cut(Web(1, ()), Web(1, ())), None)


class TwoLots(Case):

    def test_shared_and_all_together(self):
        for web in drawn_webs(5, most=6, seed=25) + SMALL[-20:]:
            ranks = {lot: cut_rank(web, lot) for lot in lots(web.knots)}
            for one, other in combinations(ranks, 2):
                shared = tuple(sorted(set(one) & set(other)))
                either = tuple(sorted(set(one) | set(other)))
                self.assertLessEqual(ranks[shared] + ranks[either], ranks[one] + ranks[other])

    def test_one_knot_more(self):
        for web in TRIED:
            for lot in lots(web.knots):
                for knot in lot:
                    less = tuple(v for v in lot if v != knot)
                    self.assertLessEqual(abs(cut_rank(web, lot) - cut_rank(web, less)), 1)

    def test_one_knot_left_out(self):
        for web in TRIED:
            for knot in range(web.knots if web.knots > 1 else 0):
                lesser = left_out(web, knot)
                for lot in lots(lesser.knots):
                    old = tuple(v + (v >= knot) for v in lot)
                    self.assertIn(cut_rank(web, old) - cut_rank(lesser, lot), (0, 1))


class Squares(Case):

    def slow_squares(self, web, lot):
        beyond = [v for v in range(web.knots) if v not in lot]
        for size in range(min(len(lot), len(beyond)) + 1):
            for knots in combinations(lot, size):
                for others in combinations(beyond, size):
                    table = tuple(tuple(int(joined(web, v, w)) for w in others) for v in knots)
                    if slow_rank(table) == size:
                        yield knots, others

    def test_all_squares_of_small_webs(self):
        for web in SMALL + drawn_webs(3, most=5, seed=26):
            all_lots = lots(web.knots)
            for lot in all_lots:
                right = list(self.slow_squares(web, lot))
                rank = slow_cut_rank(web, lot)
                self.assertEqual(max(len(knots) for knots, _ in right), rank)
                found = self.told(square_of, web, lot)
                self.assertTrue(among(found, right))
                self.assertEqual(len(found[0]), rank)
                for knots in all_lots:
                    for others in all_lots:
                        self.judged((knots, others) in right, is_square, web, lot, (knots, others))

    def test_ten_knots(self):
        for web in edge_webs() + drawn_webs(5, least=9, seed=27):
            for lot in ((), tuple(range(web.knots)), tuple(range(0, web.knots, 2)), tuple(range(web.knots // 2))):
                knots, others = found = self.told(square_of, web, lot)
                self.judged(True, is_square, web, lot, found)
                self.judged(True, is_square, web, lot, ((), ()))
                self.assertEqual([len(knots), len(others)], [cut_rank(web, lot)] * 2)
        five = Web(10, ((0, 1), (2, 3), (4, 5), (6, 7), (8, 9)))
        self.same(square_of(five, (0, 2, 4, 6, 8)), ((0, 2, 4, 6, 8), (1, 3, 5, 7, 9)))

    def test_wrong_squares(self):
        right = ((0, 2), (1, 3))
        wrong = STRAYS + tuple(bent(right)) + (
            (), ((),), ((), (), ()), ((0, 2),), ((1, 3), (0, 2)), ((2, 0), (1, 3)), ((0, 2), (3, 1)), ((0, 0), (1, 3)),
            ((0,), (1, 3)), ((0, 2), (1,)), ((1,), (0,)), ((0,), (2,)), ((0,), (3,)), ((2,), (0,)), ((0,), ()),
            [(), ()],
            ((0, 2), (1, 4)), ((-4, 2), (1, 3)), ((False,), (True,)), ([], []), ((0,), (True,)), right + ((),))
        for value in wrong:
            self.judged(False, is_square, PATH, (0, 2), value)
        self.judged(True, is_square, PATH, (0, 2), ((0,), (1,)))
        self.judged(True, is_square, PATH, (0, 2), ((), ()))
        self.judged(False, is_square, STAR, (1, 2), ((1,), (3,)))
        self.judged(False, is_square, full_web(4), (0, 1), ((0, 1), (2, 3)))


class Pieces(Case):

    def test_rank_of_whole_pieces(self):
        webs = TRIED + [beside(ROUND, STAR), beside(Web(2, ((0, 1),)), beside(Web(1, ()), PATH))]
        for web in webs:
            found = slow_pieces(web)
            for lot in lots(web.knots):
                whole = all(set(piece) <= set(lot) or not set(piece) & set(lot) for piece in found)
                self.assertEqual(cut_rank(web, lot) == 0, whole)
                if len(found) == 1 and 0 < len(lot) < web.knots:
                    self.assertGreaterEqual(cut_rank(web, lot), 1)


class Refusals(Case):

    def test_web(self):
        for value in NO_WEBS:
            self.refused(InvalidWeb, cut_table, value, ())
            self.refused(InvalidWeb, cut_rank, value, ())
            self.refused(InvalidWeb, cut_ranks, value)
            self.refused(InvalidWeb, unlike_cut, value, PATH)
            self.refused(InvalidWeb, unlike_cut, PATH, value)
            self.refused(InvalidWeb, unlike_cut, value, value)
            self.refused(InvalidWeb, square_of, value, ())
            self.refused(InvalidWeb, is_square, value, (), ((), ()))

    def test_lot(self):
        for value in NO_LOTS:
            self.refused(InvalidLot, cut_table, PATH, value)
            self.refused(InvalidLot, cut_rank, PATH, value)
            self.refused(InvalidLot, square_of, PATH, value)
            self.refused(InvalidLot, is_square, PATH, value, ((), ()))
        self.refused(InvalidWeb, cut_rank, None, None)

    def test_unlike_numbers_of_knots(self):
        for one, other in ((PATH, ROUND), (Web(1, ()), Web(2, ())), (Web(10, ()), Web(9, ()))):
            self.refused(InvalidOperation, unlike_cut, one, other)
            self.refused(InvalidOperation, unlike_cut, other, one)


class NotTrue(Case):
    """[3.6]"""

    def test_more_ties_to_the_knots_beyond(self):
        one, other = Web(4, ((0, 2), (1, 3))), full_web(4)
        self.same([cut_rank(one, (0, 1)), cut_rank(other, (0, 1))], [2, 1])

    def test_two_tied_knots_or_untied_ones(self):
        self.same([cut_rank(PATH, (1, 2)), cut_rank(STAR, (1, 2))], [2, 1])

    def test_single_knots_tell_little(self):
        for knot in range(4):
            self.same(cut_rank(PATH, (knot,)), cut_rank(STAR, (knot,)))
        self.assertNotEqual(lot_web(PATH, (1, 2)), lot_web(STAR, (1, 2)))


if __name__ == "__main__":
    unittest.main()
