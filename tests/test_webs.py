"""Stage 2: webs and turns [2.1] to [2.6]."""

import random
import unittest
from itertools import permutations

from tests.helper import (
    DEEP, PATH, ROUND, STAR, STRAYS, Case, all_webs, among, bent, drawn_webs, edge_webs, full_web, is_knot, joined,
    lots, pairs_of, path_web, round_web, slow_left_out, slow_near, slow_pieces, slow_turned, star_web, webs_up_to)
from tiedanew.errors import InvalidLot, InvalidNumber, InvalidOperation, InvalidWeb, Refused, TooMany
from tiedanew.web.webs import (
    Web, beside, left_out, lot_web, near, pieces, renamed, swung, table_of, turned, turned_by)

NO_WEBS = tuple(value for value in STRAYS if not isinstance(value, Web)) + (DEEP, (PATH,), [PATH], {0: PATH})
TRIED = list(webs_up_to(4)) + drawn_webs(40) + edge_webs()


class Examples(Case):

    def test_turns(self):
        self.same([near(PATH, 1), turned(PATH, 1).ties, table_of(STAR)[0]], [
            (0, 2), ((0, 1), (0, 2), (1, 2), (2, 3)), (0, 1, 1, 1)])
        self.assertEqual(turned_by(PATH, (1, 2, 1)), swung(PATH, 2, 1))

    def test_lesser(self):
        self.same([swung(PATH, 1, 2).ties, left_out(turned(PATH, 1), 1).ties, pieces(left_out(PATH, 1))], [
            ((0, 2), (0, 3), (1, 2), (1, 3)), ((0, 1), (1, 2)), ((0,), (1, 2))])
        self.assertEqual(turned(turned(STAR, 0), 0), STAR)

    def test_others(self):
        self.same([str(STAR), lot_web(PATH, (0, 2, 3)).ties], ["web of 4 knots, 3 ties", ((1, 2),)])
        self.same([beside(PATH, Web(1, ())).knots, renamed(PATH, (1, 0, 2, 3)).ties], [5, ((0, 1), (0, 2), (2, 3))])

    def test_error(self):
        self.refused(Refused, swung, PATH, 0, 3, kept=("reason", ("untied",)))


class TheClass(Case):

    def test_properties(self):
        for knots in range(1, 11):
            for ties in ((), tuple(pairs_of(knots))):
                web = Web(knots, ties)
                self.same([web.knots, web.ties], [knots, ties])
        self.same(Web(2, ((0, 1),)).ties, ((0, 1),))

    def test_str(self):
        told = ((Web(1, ()), "web of 1 knots, 0 ties"), (Web(2, ((0, 1),)), "web of 2 knots, 1 ties"),
                (full_web(10), "web of 10 knots, 45 ties"), (Web(5, ROUND.ties + ()), "web of 5 knots, 5 ties"),
                (Web(5, ((0, 1), (0, 2), (1, 2), (1, 4), (2, 3), (3, 4))), "web of 5 knots, 6 ties"))
        for web, text in told:
            self.same(str(web), text)

    def test_equal(self):
        for web in TRIED:
            again = Web(web.knots, web.ties)
            self.assertIs(web == again, True)
            self.assertIs(web != again, False)
        small = list(webs_up_to(3))
        for k, one in enumerate(small):
            for j, other in enumerate(small):
                self.assertIs(one == other, j == k)
                self.assertIs(one != other, j != k)
        self.assertIs(Web(2, ()) == Web(3, ()), False)

    def test_equal_takes_every_value(self):
        for value in STRAYS + ((4, PATH.ties), PATH.ties, str(PATH), Web):
            self.assertIs(PATH == value, False)
            self.assertIs(PATH != value, True)
            self.assertIs(value == PATH, False)
            self.assertIs(value != PATH, True)

    def test_it_never_changes(self):
        web = Web(4, PATH.ties)
        for name in ("knots", "ties"):
            with self.assertRaises(AttributeError):
                setattr(web, name, 3)
        for function, rest in ((table_of, ()), (near, (1,)), (turned, (1,)), (turned_by, ((1, 2),)), (swung, (1, 2)),
                               (left_out, (1,)), (lot_web, ((1, 2),)), (renamed, ((1, 0, 2, 3),)), (pieces, ()),
                               (beside, (STAR,))):
            self.told(function, web, *rest)
            self.same([web.knots, web.ties], [4, ((0, 1), (1, 2), (2, 3))])
        self.same(STAR.ties, ((0, 1), (0, 2), (0, 3)))

    def test_it_is_not_iterated_over(self):
        for iterate in (iter, list, tuple, set, sorted):
            with self.assertRaises(TypeError):
                iterate(PATH)
        with self.assertRaises(TypeError):
            for _ in PATH:
                pass

    def test_knots_refused(self):
        for value in STRAYS + (0, 11, -1, True, (4,), [4]):
            if not is_knot(value, 11) or value == 0:
                self.refused(InvalidWeb, Web, value, ())
        self.refused(InvalidWeb, Web, True, ())
        self.refused(InvalidWeb, Web, 0, ())
        self.refused(InvalidWeb, Web, 11, ())

    def test_ties_refused(self):
        wrong = STRAYS + tuple(bent(PATH.ties, 10 ** 99)) + (
            ((1, 0),), ((0, 0),), ((0, 4),), ((-1, 0),), ((0, 2), (0, 1)), ((0, 1), (0, 1)), ((1, 2), (0, 3)),
            ((0, 1, 2),), ((0,),), (0, 1), [(0, 1)], ([0, 1],), ((0, True),), ((False, 1),), ((0, 1), None), ("01",),
            ((0, (1,)),), ((0, 10 ** 60),), {(0, 1): 1}, ((0, 1), (1, 2), (1, 2)), ((2, 3), (1, 2), (0, 1)))
        for value in wrong:
            if not among(value, [()]):
                with self.assertRaises(InvalidWeb):
                    Web(4, value)
        self.refused(InvalidWeb, Web, 3, ((0, 1), (1, 2), (2, 3)))
        self.refused(InvalidWeb, Web, 1, ((0, 1),))
        self.refused(InvalidWeb, Web, 10, ((0, 10),))


class Turns(Case):

    def test_tables_and_near_knots(self):
        for web in TRIED:
            table = self.told(table_of, web)
            self.same(table, tuple(
                tuple(int(joined(web, v, w)) for w in range(web.knots)) for v in range(web.knots)))
            for knot in range(web.knots):
                self.same(self.told(near, web, knot), slow_near(web, knot))

    def test_turned_tie_by_tie(self):
        for web in TRIED:
            for knot in range(web.knots):
                behind = self.told(turned, web, knot)
                self.assertEqual(behind, slow_turned(web, knot))
                self.assertEqual(behind.knots, web.knots)
                self.assertEqual(turned(behind, knot), web)
                self.assertEqual(near(behind, knot), near(web, knot))

    def test_rows_of_turns(self):
        draw = random.Random(11)
        for web in TRIED[::3]:
            for length in (0, 1, 2, 5, 30):
                row = tuple(draw.randrange(web.knots) for _ in range(length))
                behind = web
                for knot in row:
                    behind = slow_turned(behind, knot)
                self.assertEqual(self.told(turned_by, web, row), behind)
                self.assertEqual(turned_by(behind, row[::-1]), web)

    def test_long_rows_of_turns(self):
        for web in (PATH, full_web(10), round_web(10), Web(1, ())):
            draw = random.Random(12)
            row = tuple(draw.randrange(web.knots) for _ in range(200))
            half = turned_by(web, row[:100])
            self.assertEqual(turned_by(web, row), turned_by(half, row[100:]))
            self.assertEqual(turned_by(web, (0,) * 200), web)
            self.assertEqual(turned_by(web, (0,) * 199), turned(web, 0))
            self.assertEqual(turned_by(web, ()), web)
            self.refused(InvalidOperation, turned_by, web, row + (0,))
            self.refused(InvalidOperation, turned_by, web, (0,) * 201)

    def test_two_knots(self):
        for web in TRIED:
            for v, w in pairs_of(web.knots):
                if not joined(web, v, w):
                    self.assertEqual(turned_by(web, (v, w)), turned_by(web, (w, v)))
                    continue
                behind = self.told(swung, web, v, w)
                self.assertEqual(behind, swung(web, w, v))
                self.assertEqual(behind, turned_by(web, (v, w, v)))
                self.assertEqual(behind, turned_by(web, (w, v, w)))
                self.assertEqual(behind, self.slow_swung(web, v, w))

    def slow_swung(self, web, v, w):
        """Ties of unlike parts are turned, and what is near v alone and near w alone exchanged [2.2]."""
        part = {}
        for knot in range(web.knots):
            if knot not in (v, w):
                part[knot] = (joined(web, v, knot), joined(web, w, knot))
        ties = []
        for low, high in pairs_of(web.knots):
            tied = joined(web, low, high)
            if low in part and high in part:
                unlike = part[low] != part[high] and any(part[low]) and any(part[high])
                tied = tied != unlike
            elif low in part or high in part:
                knot, hub = (low, high) if low in part else (high, low)
                tied = joined(web, knot, v if hub == w else w)
            if tied:
                ties.append((low, high))
        return Web(web.knots, tuple(ties))


class Lesser(Case):

    def test_left_out(self):
        for web in TRIED:
            if web.knots > 1:
                for knot in range(web.knots):
                    self.assertEqual(self.told(left_out, web, knot), slow_left_out(web, knot))

    def test_ahead_of_a_turn_or_behind_it(self):
        for web in TRIED:
            for v in range(web.knots):
                for w in range(web.knots):
                    if v != w:
                        self.assertEqual(left_out(turned(web, w), v), turned(left_out(web, v), w - (w > v)))

    def test_webs_of_lots(self):
        for web in list(webs_up_to(4)) + drawn_webs(6, most=7) + edge_webs():
            for lot in lots(web.knots, 1)[::1 if web.knots < 8 else 37]:
                ties = [(low, high) for low, high in pairs_of(len(lot)) if joined(web, lot[low], lot[high])]
                self.assertEqual(self.told(lot_web, web, lot), Web(len(lot), tuple(ties)))
            self.assertEqual(lot_web(web, tuple(range(web.knots))), web)


class Pieces(Case):

    def test_pieces(self):
        for web in TRIED + drawn_webs(40, seed=3) + list(all_webs(4)):
            found = self.told(pieces, web)
            self.same(found, slow_pieces(web))
            for knot in range(web.knots):
                self.same(pieces(turned(web, knot)), found)

    def test_edges(self):
        self.same(pieces(Web(1, ())), ((0,),))
        self.same(pieces(Web(10, ())), tuple((knot,) for knot in range(10)))
        for web in (full_web(10), star_web(10), path_web(10), round_web(10)):
            self.same(pieces(web), (tuple(range(10)),))
        self.same(pieces(Web(10, ((0, 9), (1, 8), (2, 9), (3, 8), (4, 5)))), (
            (0, 2, 9), (1, 3, 8), (4, 5), (6,), (7,)))
        # The knots are found from the last one to the first one only.
        self.same(pieces(Web(6, ((0, 5), (1, 3), (1, 4), (2, 4), (2, 5)))), ((0, 1, 2, 3, 4, 5),))


class OtherNames(Case):

    def test_renamed(self):
        draw = random.Random(13)
        for web in TRIED:
            orders = list(permutations(range(web.knots))) if web.knots < 4 else [
                tuple(draw.sample(range(web.knots), web.knots)) for _ in range(3)]
            for order in orders:
                behind = self.told(renamed, web, order)
                ties = sorted(tuple(sorted((order[low], order[high]))) for low, high in web.ties)
                self.assertEqual(behind, Web(web.knots, tuple(ties)))
                for knot in range(web.knots):
                    self.assertEqual(turned(behind, order[knot]), renamed(turned(web, knot), order))
        self.assertEqual(renamed(Web(3, ((0, 1),)), (1, 2, 0)), Web(3, ((1, 2),)))

    def test_beside(self):
        small = list(webs_up_to(3)) + [PATH, ROUND, full_web(5)]
        for one in small:
            for other in small:
                both = self.told(beside, one, other)
                ties = one.ties + tuple((low + one.knots, high + one.knots) for low, high in other.ties)
                self.assertEqual(both, Web(one.knots + other.knots, ties))
                for knot in range(one.knots):
                    self.assertEqual(turned(both, knot), beside(turned(one, knot), other))
                for knot in range(other.knots):
                    self.assertEqual(turned(both, one.knots + knot), beside(one, turned(other, knot)))

    def test_beside_ten_and_eleven(self):
        for count in range(1, 10):
            self.assertEqual(beside(full_web(count), full_web(10 - count)).knots, 10)
            self.refused(TooMany, beside, full_web(count), full_web(11 - count), kept=("limit", 10))
            self.refused(TooMany, beside, Web(11 - count, ()), Web(count, ()), kept=("limit", 10))
        self.refused(TooMany, beside, Web(10, ()), Web(10, ()), kept=("limit", 10))


class Refusals(Case):

    def test_web(self):
        for value in NO_WEBS:
            self.refused(InvalidWeb, table_of, value)
            self.refused(InvalidWeb, pieces, value)
            self.refused(InvalidWeb, near, value, 0)
            self.refused(InvalidWeb, turned, value, 0)
            self.refused(InvalidWeb, turned_by, value, ())
            self.refused(InvalidWeb, swung, value, 0, 1)
            self.refused(InvalidWeb, left_out, value, 0)
            self.refused(InvalidWeb, lot_web, value, (0,))
            self.refused(InvalidWeb, renamed, value, (0,))
            self.refused(InvalidWeb, beside, value, PATH)
            self.refused(InvalidWeb, beside, PATH, value)
            self.refused(InvalidWeb, beside, full_web(10), value)

    def test_knot(self):
        for value in STRAYS + (4, -1, True, False, 10 ** 60, None, (0,), "0"):
            if not is_knot(value, 4):
                for function in (near, turned, left_out):
                    self.refused_number(InvalidNumber, function, PATH, value, at=1)
                self.refused_number(InvalidNumber, swung, PATH, value, 1, at=1)
                self.refused_number(InvalidNumber, swung, PATH, 1, value, at=2)
                self.refused_number(InvalidNumber, swung, PATH, value, -7, at=1)
        self.refused_number(InvalidNumber, left_out, Web(1, ()), 1, at=1)
        self.refused_number(InvalidNumber, turned, Web(10, ()), 10, at=1)

    def test_swung(self):
        for knot in range(4):
            self.refused(InvalidOperation, swung, PATH, knot, knot)
            self.refused(InvalidOperation, swung, Web(4, ()), knot, knot)
        for v, w in ((0, 2), (2, 0), (3, 0), (1, 3)):
            self.refused(Refused, swung, PATH, v, w, kept=("reason", ("untied",)))

    def test_row(self):
        wrong = STRAYS + ((4,), (0, -1), (True,), (0, False), (0, None), [0], "01", ((0,),), (10 ** 60,), {0: 1})
        for value in wrong:
            if not among(value, [(), (0, 0), (1, 0)]):
                self.refused(InvalidOperation, turned_by, PATH, value)
        self.refused(InvalidOperation, turned_by, Web(1, ()), (1,))
        self.assertEqual(turned_by(PATH, (3, 3)), PATH)

    def test_lot(self):
        wrong = STRAYS + ((1, 0), (0, 0), (0, 4), (-1, 0), (0, True), (False, 1), [0, 1], "01", ((0,),), (0, 10 ** 60))
        for value in wrong:
            if not among(value, [()]):
                self.refused(InvalidLot, lot_web, PATH, value)
        self.refused(InvalidOperation, lot_web, PATH, ())
        self.refused(InvalidOperation, lot_web, Web(1, ()), ())

    def test_last(self):
        self.refused(Refused, left_out, Web(1, ()), 0, kept=("reason", ("last",)))
        self.assertEqual(left_out(Web(2, ((0, 1),)), 0), Web(1, ()))

    def test_order(self):
        wrong = STRAYS + (
            (0, 1, 2), (0, 1, 2, 2), (0, 1, 2, 4), (1, 2, 3, 4), (0, 1, 2, 3, 3), (0, 1, 2, 3, 4), (-1, 0, 1, 2),
            (False, 1, 2, 3), (0, True, 2, 3), [0, 1, 2, 3], "0123", {0: 0, 1: 1, 2: 2, 3: 3}, (0, 1, 2, None),
            ((0, 1, 2, 3),), (0, 1, 2, 10 ** 60))
        for value in wrong:
            self.refused(InvalidOperation, renamed, PATH, value)
        self.refused(InvalidOperation, renamed, Web(1, ()), ())
        self.refused(InvalidOperation, renamed, Web(1, ()), (False,))


class NotTrue(Case):
    """[2.6]"""

    def test_a_turn_changes_the_number_of_ties(self):
        self.assertNotEqual(len(turned(STAR, 0).ties), len(STAR.ties))

    def test_turns_at_tied_knots_in_both_sequences(self):
        self.assertNotEqual(turned_by(PATH, (1, 2)), turned_by(PATH, (2, 1)))

    def test_kin_webs_have_unlike_numbers_of_leaves(self):
        def counts(web):
            return [len(near(web, knot)) for knot in range(web.knots)].count(1)
        self.assertNotEqual(counts(STAR), counts(turned(STAR, 0)))

    def test_a_round_of_three_comes(self):
        def rounds(web):
            return [1 for v, w in web.ties for knot in range(4) if joined(web, v, knot) and joined(web, w, knot)]
        self.assertFalse(rounds(STAR))
        self.assertTrue(rounds(turned(STAR, 0)))


if __name__ == "__main__":
    unittest.main()
