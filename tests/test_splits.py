"""Stage 4: splits [4.1] to [4.6]."""

import random
import unittest
from itertools import combinations

from tests.helper import (
    PATH, ROUND, STAR, STRAYS, WHEEL, Case, all_webs, among, bent, drawn_web, drawn_webs, edge_webs, full_web, joined,
    lots, pairs_of, path_web, round_web, slow_cut_rank, slow_near, slow_pieces, star_web, webs_up_to)
from tests.test_cuts import NO_LOTS
from tests.test_webs import NO_WEBS
from tiedanew.errors import InvalidLot, InvalidOperation, InvalidWeb, TooMany
from tiedanew.split.splits import (
    is_split, is_split_or_none, is_unsplit, joined_at, leaves, parted, split_or_none, splits, twins)
from tiedanew.web.webs import Web, beside, left_out, lot_web, pieces, turned, turned_by

ROW = path_web(5)
SMALL = list(webs_up_to(4)) + list(all_webs(5))[::9]
TRIED = SMALL + drawn_webs(25, most=7, seed=41) + [beside(ROUND, STAR), beside(PATH, PATH)]
GREAT = [web for web in edge_webs() if web.knots == 10] + drawn_webs(3, least=10, seed=42) + [
    beside(ROUND, round_web(5)), beside(WHEEL, PATH), joined_at(ROUND, round_web(7), (0, 3, 5, 8))]


def slow_is_split(web, lot):
    return 0 in lot and 2 <= len(lot) <= web.knots - 2 and slow_cut_rank(web, lot) <= 1


def slow_splits(web):
    return tuple(sorted(lot for lot in lots(web.knots) if slow_is_split(web, lot)))


def slow_part(web, lot):
    """The web of the lot with a marker that stands for all knots beyond."""
    beyond = [v for v in range(web.knots) if v not in lot]
    ties = [(i, j) for i, j in pairs_of(len(lot)) if joined(web, lot[i], lot[j])]
    ties += [(i, len(lot)) for i, v in enumerate(lot) if any(joined(web, v, w) for w in beyond)]
    return Web(len(lot) + 1, tuple(sorted(ties)))


class Examples(Case):

    def test_splits(self):
        self.same([splits(ROUND), splits(ROW), is_unsplit(ROUND), is_unsplit(PATH), split_or_none(ROUND)], [
            (), ((0, 1), (0, 1, 2)), True, False, None])

    def test_small_ones(self):
        self.same(leaves(ROW), ((0, 1), (4, 3)))
        self.same(twins(Web(4, ((0, 1), (0, 2), (0, 3), (1, 2)))), ((1, 2),))
        self.same(leaves(Web(2, ((0, 1),))), ((0, 1), (1, 0)))

    def test_parted(self):
        one, other = parted(ROW, (0, 1))
        self.same([one.ties, other.ties], [((0, 1), (1, 2)), ((0, 1), (0, 3), (1, 2))])
        self.assertEqual(joined_at(one, other, (0, 1)), ROW)
        self.judged(True, is_split, ROW, (0, 1, 2))
        self.judged(False, is_split, ROW, (3, 4))

    def test_error(self):
        self.refused(InvalidOperation, parted, ROUND, (0, 1))


class Splits(Case):

    def test_by_all_lots(self):
        for web in TRIED + list(all_webs(5))[:300]:
            self.same(self.told(splits, web), slow_splits(web))

    def test_ten_knots(self):
        for web in GREAT:
            found = splits(web)
            self.assertEqual(list(found), sorted(set(found)))
            draw = random.Random(43)
            for _ in range(60):
                lot = tuple(sorted([0] + draw.sample(range(1, 10), draw.randint(0, 9))))
                self.assertEqual(lot in found, slow_is_split(web, lot))
                self.judged(lot in found, is_split, web, lot)
        self.assertEqual([len(splits(Web(10, ()))), len(splits(full_web(10))), len(splits(star_web(10)))], [501] * 3)
        self.assertEqual([splits(round_web(10)), len(splits(path_web(10)))], [(), 7])

    def test_webs_of_few_knots(self):
        for web in webs_up_to(3):
            self.same([splits(web), split_or_none(web)], [(), None])
        for web in all_webs(4):
            self.assertTrue(splits(web))

    def test_judge(self):
        for web in TRIED[::3]:
            for lot in lots(web.knots):
                self.judged(slow_is_split(web, lot), is_split, web, lot)
            for value in STRAYS:
                if not among(value, slow_splits(web)):
                    self.judged(False, is_split, web, value)

    def test_judge_of_wrong_values(self):
        for web in (PATH, ROW, STAR, full_web(6)):
            for right in splits(web):
                self.judged(True, is_split, web, right)
                for value in tuple(bent(right)) + (right[::-1], right + right, (right,), right[1:], right[:1] + right):
                    self.judged(False, is_split, web, value)
        for value in ((), (0,), (0, 1, 2), (0, 1, 2, 3), (1, 2), (2, 3), (0, 4), (-4, 1), (0, 2)):
            self.judged(False, is_split, PATH, value)
        self.judged(False, is_split, Web(4, ()), (0, 1, 2))
        self.judged(False, is_split, Web(3, ()), (0, 1))

    def test_split_or_none(self):
        for web in TRIED + GREAT:
            right, found = splits(web), self.told(split_or_none, web)
            self.assertTrue(among(found, right or (None,)))
            self.judged(True, is_split_or_none, web, found)
            self.judged(not right, is_split_or_none, web, None)
            for lot in right:
                self.judged(True, is_split_or_none, web, lot)
        for web in (PATH, ROUND, full_web(5)):
            for value in STRAYS[1:] + ((0,), (0, 1, 2, 3), (3, 4), (0, True)):
                self.judged(False, is_split_or_none, web, value)
            for value in bent(split_or_none(web)):
                self.judged(False, is_split_or_none, web, value)

    def test_unsplit(self):
        for web in TRIED + GREAT[:4]:
            unsplit = web.knots >= 5 and len(slow_pieces(web)) == 1 and not slow_splits(web)
            self.judged(unsplit, is_unsplit, web)
        for knots in range(5, 11):
            self.judged(True, is_unsplit, round_web(knots))
        for web in (WHEEL, turned(WHEEL, 0), turned_by(round_web(8), (3, 4, 7))):
            self.judged(True, is_unsplit, web)
        for web in (round_web(4), Web(1, ()), beside(ROUND, ROUND), beside(ROUND, Web(1, ())), full_web(10)):
            self.judged(False, is_unsplit, web)


class SmallOnes(Case):

    def test_leaves_and_twins(self):
        for web in TRIED + GREAT:
            near_ones = [slow_near(web, v) for v in range(web.knots)]
            self.same(self.told(leaves, web), tuple((v, ws[0]) for v, ws in enumerate(near_ones) if len(ws) == 1))
            self.same(self.told(twins, web), tuple(
                (v, w) for v, w in pairs_of(web.knots)
                if set(near_ones[v]) - {w} == set(near_ones[w]) - {v}))

    def test_edges(self):
        self.same([leaves(Web(1, ())), twins(Web(1, ()))], [(), ()])
        self.same([twins(Web(2, ())), twins(Web(2, ((0, 1),))), leaves(Web(2, ()))], [((0, 1),), ((0, 1),), ()])
        self.same([twins(full_web(10)), twins(Web(10, ()))], [tuple(pairs_of(10))] * 2)
        self.same(leaves(star_web(10)), tuple((v, 0) for v in range(1, 10)))
        self.same([leaves(round_web(10)), twins(round_web(10))], [(), ()])

    def test_cut_rank_of_two_knots(self):
        for web in TRIED:
            alike = twins(web)
            for v, w in pairs_of(web.knots):
                alone = any(set(slow_near(web, one)) <= {other} for one, other in ((v, w), (w, v)))
                self.assertEqual(slow_cut_rank(web, (v, w)) <= 1, (v, w) in alike or alone)


class Parted(Case):

    def test_parts_and_joined_again(self):
        for web in TRIED + GREAT:
            for lot in splits(web)[:40]:
                one, other = self.told(parted, web, lot)
                beyond = tuple(v for v in range(web.knots) if v not in lot)
                self.assertEqual(one, slow_part(web, lot))
                self.assertEqual(other, slow_part(web, beyond))
                self.assertEqual(self.told(joined_at, one, other, lot), web)
                border = [v for v in lot if joined(one, lot.index(v), len(lot))]
                far = [w for w in beyond if joined(other, beyond.index(w), len(beyond))]
                for v in lot:
                    for w in beyond:
                        self.assertEqual(joined(web, v, w), v in border and w in far)

    def test_turns(self):
        for web in TRIED:
            for lot in splits(web):
                one, other = parted(web, lot)
                beyond = tuple(v for v in range(web.knots) if v not in lot)
                for v in range(web.knots):
                    behind = turned(web, v)
                    self.same(splits(behind), splits(web))
                    sides = [(lot, one), (beyond, other)] if v in lot else [(beyond, other), (lot, one)]
                    (here, part), (there, far) = sides
                    at = here.index(v)
                    if joined(part, at, len(here)):
                        far = turned(far, len(there))
                    expected = {here: turned(part, at), there: far}
                    self.assertEqual(parted(behind, lot), (expected[lot], expected[beyond]))

    def test_joined_webs(self):
        draw = random.Random(44)
        for _ in range(150):
            one, other = (drawn_web(draw, draw.randint(2, 6), 0.5) for _ in range(2))
            many = one.knots + other.knots - 2
            lot = tuple(sorted(draw.sample(range(many), one.knots - 1)))
            beyond = tuple(v for v in range(many) if v not in lot)
            whole = self.told(joined_at, one, other, lot)
            for v, w in pairs_of(many):
                if (v in lot) == (w in lot):
                    side, names = (one, lot) if v in lot else (other, beyond)
                    tied = joined(side, names.index(v), names.index(w))
                else:
                    inside, outside = (v, w) if v in lot else (w, v)
                    tied = joined(one, lot.index(inside), len(lot))
                    tied = tied and joined(other, beyond.index(outside), len(beyond))
                self.assertEqual(joined(whole, v, w), tied)
            self.assertEqual(whole.knots, many)
            self.assertLessEqual(slow_cut_rank(whole, lot), 1)

    def test_ten_knots_and_eleven(self):
        self.assertEqual(joined_at(full_web(6), full_web(6), (0, 1, 2, 3, 4)), full_web(10))
        self.refused(TooMany, joined_at, full_web(6), full_web(7), (0, 1, 2, 3, 4), kept=("limit", 10))
        self.refused(TooMany, joined_at, full_web(10), full_web(10), tuple(range(9)), kept=("limit", 10))
        self.assertEqual(joined_at(full_web(10), Web(2, ((0, 1),)), tuple(range(9))), full_web(10))
        self.assertEqual(joined_at(Web(2, ()), full_web(10), (4,)).knots, 10)
        self.assertEqual(joined_at(Web(2, ((0, 1),)), Web(2, ((0, 1),)), (1,)), Web(2, ((0, 1),)))


class TwoSplits(Case):

    def test_crossing_ones(self):
        tried = 0
        for web in TRIED + GREAT[:1]:
            if len(slow_pieces(web)) > 1:
                continue
            knots = set(range(web.knots))
            found = {frozenset(side) for lot in splits(web) for side in (lot, knots - set(lot))}
            for one, other in combinations(splits(web)[:30], 2):
                for side in (set(one), knots - set(one)):
                    for far in (set(other), knots - set(other)):
                        corners = [a & b for a in (side, knots - side) for b in (far, knots - far)]
                        if all(corners):
                            tried += 1
                            for lot in (side & far, side ^ far):
                                if 2 <= len(lot) <= web.knots - 2:
                                    self.assertIn(frozenset(lot), found)
        self.assertGreater(tried, 100)


class Refusals(Case):

    def test_web(self):
        for value in NO_WEBS:
            for function in (splits, split_or_none, is_unsplit, leaves, twins):
                self.refused(InvalidWeb, function, value)
            for function in (is_split, is_split_or_none):
                self.refused(InvalidWeb, function, value, (0, 1))
                self.refused(InvalidWeb, function, value, None)
            self.refused(InvalidWeb, parted, value, (0, 1))
            self.refused(InvalidWeb, joined_at, value, ROW, (0, 1))
            self.refused(InvalidWeb, joined_at, ROW, value, (0, 1, 2, 3))
            self.refused(InvalidWeb, joined_at, Web(1, ()), value, ())

    def test_lot_of_parted(self):
        for value in NO_LOTS:
            self.refused(InvalidLot, parted, PATH, value)
        for value in ((), (0,), (1,), (0, 1, 2), (0, 1, 2, 3), (2, 3), (1, 2), (0, 2), (0, 3)):
            self.refused(InvalidOperation, parted, PATH, value)
        self.refused(InvalidWeb, parted, None, None)

    def test_lot_of_joined_at(self):
        wrong = STRAYS + (
            (), (0,), (1, 0), (0, 0), (0, 1, 2), (0, 5), (-1, 0), (0, True), (False, 1), [0, 1], ((0, 1),),
            (0, 10 ** 60), "01", {0: 0, 1: 1}, (0, None))
        for value in wrong:
            self.refused(InvalidLot, joined_at, Web(3, ()), PATH, value)
        for lot in lots(5):
            if len(lot) == 2:
                self.assertEqual(joined_at(Web(3, ()), PATH, lot).knots, 5)

    def test_markers_alone(self):
        for one, other in ((Web(1, ()), PATH), (PATH, Web(1, ())), (Web(1, ()), Web(1, ()))):
            for lot in ((), (0,), (0, 1, 2), (1, 0), None, [0, 1]):
                self.refused(InvalidOperation, joined_at, one, other, lot)

    def test_the_sequence_of_errors(self):
        self.refused(InvalidLot, joined_at, full_web(6), full_web(7), (0, 1, 2, 3))
        self.refused(InvalidLot, joined_at, full_web(6), full_web(7), (0, 1, 2, 3, 11))
        self.refused(TooMany, joined_at, full_web(6), full_web(7), (0, 1, 2, 3, 10), kept=("limit", 10))
        self.refused(InvalidWeb, joined_at, Web(1, ()), None, (0, 1))


class NotTrue(Case):
    """[4.6]"""

    def test_a_split_without_leaves_and_twins(self):
        web = joined_at(ROUND, ROUND, (0, 1, 2, 3))
        self.same([leaves(web), twins(web), splits(web)], [(), (), ((0, 1, 2, 3),)])

    def test_a_tie_less(self):
        self.judged(True, is_split, full_web(4), (0, 1))
        self.judged(False, is_split, Web(4, ((0, 1), (0, 3), (1, 2), (1, 3), (2, 3))), (0, 1))

    def test_unsplit_without_a_knot(self):
        self.judged(True, is_unsplit, round_web(6))
        self.judged(False, is_unsplit, left_out(round_web(6), 0))

    def test_twins_behind_a_turn(self):
        self.assertIn((0, 1), twins(full_web(3)))
        self.assertNotIn((0, 1), twins(turned(full_web(3), 0)))
        self.assertEqual(pieces(lot_web(full_web(3), (0, 1))), ((0, 1),))


if __name__ == "__main__":
    unittest.main()
