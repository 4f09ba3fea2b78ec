"""Stage 16: how many are kin [16.1] to [16.5], which is [0.17]."""

import random
import unittest
from itertools import permutations, product

from tests.helper import (
    PATH, ROUND, STAR, STRAYS, WHEEL, Case, all_webs, bent, drawn_web, drawn_webs, edge_webs, full_web,
    path_web, slow_kin, slow_left_out, slow_near, slow_pieces, slow_turned, star_web, webs_up_to)
from tests.test_members import all_letters, told_strings
from tests.test_sums import QUADRUPLES, bits_of, drawn_kin, drawn_renamed, slow_is_member, span_of
from tests.test_webs import NO_WEBS
from tiedanew.errors import InvalidOperation, InvalidWeb, TooMany
from tiedanew.kin.classes import (
    are_all_kin, choice_count, is_named_kin, kin_count, kin_webs, least_kin, named_kin, self_count)
from tiedanew.kin.sums import member_basis
from tiedanew.web.webs import Web, beside, lot_web, renamed, turned, turned_by

WAY = PATH
CROSS = Web(4, ((0, 2), (1, 2), (1, 3)))
SIX = Web(7, ((0, 1), (0, 5), (0, 6), (1, 2), (2, 3), (2, 6), (3, 4), (4, 5), (4, 6)))
SMALL = list(webs_up_to(4))
FIVES = list(all_webs(5))[::29] + [ROUND, path_web(5), star_web(5)]
SIXES = drawn_webs(12, least=6, most=6, seed=1601) + [WHEEL, Web(6, ()), full_web(6), beside(PATH, Web(2, ((0, 1),)))]


def slow_free(web):
    """All free letters, by going through all strings of the full lot."""
    strings = [string for string in told_strings(web) if set(string) != {"I"}]
    return [letters for letters in all_letters(web.knots)
            if not any(all(one in ("I", letter) for one, letter in zip(string, letters)) for string in strings)]


def slow_good(one, other):
    """How many good members lead there, by all tuples of quadruples."""
    good = [each for each in QUADRUPLES if bits_of((each,)) == [1]]
    return sum(slow_is_member(one, other, value) for value in product(good, repeat=one.knots))


def good_in_span(one, other):
    return sum(0 not in bits_of(member) for member in span_of(member_basis(one, other), one.knots))


def three_ways(web, knot):
    """The webs without the knot: as it is, turned there, swung along a tie there."""
    close = slow_near(web, knot)
    behind = slow_turned(web, knot)
    swung = slow_turned(slow_turned(behind, close[0]), knot)
    return [slow_left_out(each, knot) for each in (web, behind, swung)]


class Examples(Case):

    def test_counts(self):
        self.same([(choice_count(web), self_count(web), kin_count(web)) for web in (WAY, ROUND, WHEEL)], [
            (44, 4, 11), (132, 1, 132), (396, 3, 132)])
        self.same([kin_count(Web(2, ((0, 1),))), choice_count(Web(1, ())), self_count(Web(3, ((0, 1),)))], [1, 2, 12])

    def test_kin(self):
        self.same([len(kin_webs(WAY)), least_kin(WAY).ties], [11, ((0, 1), (0, 2), (0, 3), (1, 2), (1, 3))])
        self.judged(True, are_all_kin, WAY, kin_webs(turned(WAY, 1)))
        self.judged(False, are_all_kin, WAY, kin_webs(WAY)[1:])

    def test_names(self):
        self.judged(True, is_named_kin, WAY, CROSS, ((0, 2, 1, 3), ()))
        self.same([named_kin(WAY, Web(4, ((0, 1), (0, 2), (0, 3)))), named_kin(WAY, CROSS) is None], [None, False])

    def test_error(self):
        self.refused(TooMany, kin_webs, Web(7, ()), kept=("limit", 6))


class FreeLetters(Case):
    """T [16.1]."""

    def test_by_going_through_the_full_lot(self):
        for web in SMALL + FIVES + SIXES[::3]:
            self.same(self.told(choice_count, web), len(slow_free(web)))

    def test_letter_by_letter(self):
        """Those with Z, Y, X at a knot are those of the three webs without it; T is the sum, or twice one."""
        for web in [web for web in SMALL + FIVES[::4] if web.knots > 1]:
            free = slow_free(web)
            for knot in range(web.knots):
                found = [sum(letters[knot] == letter for letters in free) for letter in "ZYX"]
                if slow_near(web, knot):
                    self.assertEqual(found, [choice_count(lesser) for lesser in three_ways(web, knot)])
                else:
                    lesser = choice_count(slow_left_out(web, knot))
                    self.assertEqual(found, [lesser, lesser, 0])

    def test_great_webs(self):
        for web in drawn_webs(25, least=7, seed=1602) + edge_webs():
            if web.knots > 1:
                for knot in (0, web.knots // 2, web.knots - 1):
                    if slow_near(web, knot):
                        total = sum(choice_count(lesser) for lesser in three_ways(web, knot))
                    else:
                        total = 2 * choice_count(slow_left_out(web, knot))
                    self.same(choice_count(web), total)

    def test_edges(self):
        self.same([choice_count(Web(many, ())) for many in range(1, 11)], [2 ** many for many in range(1, 11)])
        self.same(choice_count(beside(ROUND, ROUND)), 132 * 132)
        self.same(choice_count(beside(WHEEL, PATH)), 396 * 44)


class GoodMembers(Case):
    """S [16.2]."""

    def test_by_all_tuples_of_quadruples(self):
        for web in webs_up_to(3):
            self.same(self.told(self_count, web), slow_good(web, web))
        for web in (WAY, STAR, Web(4, ((0, 1), (2, 3))), Web(4, ((1, 3),))):
            self.same(self_count(web), slow_good(web, web))

    def test_by_all_sums_of_a_basis(self):
        for web in list(all_webs(4))[::3] + FIVES[::2] + SIXES:
            if len(member_basis(web, web)) <= 10:
                self.same(self_count(web), good_in_span(web, web))

    def test_product_of_pieces(self):
        for web in SMALL[::3] + FIVES + SIXES + [beside(ROUND, STAR), beside(WHEEL, Web(2, ((0, 1),)))]:
            total = 1
            for lot in slow_pieces(web):
                total *= self_count(lot_web(web, lot))
            self.same(self_count(web), total)

    def test_edges(self):
        self.same([self_count(Web(many, ())) for many in range(1, 11)], [2 ** many for many in range(1, 11)])
        self.same([self_count(web) for web in (Web(2, ((0, 1),)), full_web(10), star_web(10))], [6, 512, 512])
        self.same(self_count(Web(10, ((0, 1), (2, 3), (4, 5), (6, 7), (8, 9)))), 6 ** 5)


class HowMany(Case):

    def test_all_kin_are_T_by_S(self):
        """EXACTLY as many as turning again and again tells [16.3]; S divides T."""
        for web in SMALL + FIVES + SIXES + [SIX, path_web(7), beside(PATH, path_web(3))]:
            self.same(self.told(kin_count, web), len(slow_kin(web)))
            self.assertEqual(choice_count(web) % self_count(web), 0)

    def test_great_webs(self):
        for web in drawn_webs(30, least=7, seed=1603) + edge_webs():
            self.assertEqual(choice_count(web), self_count(web) * kin_count(web))
            self.assertIs(type(kin_count(web)), int)
        self.same([kin_count(web) for web in (full_web(10), star_web(10), Web(10, ()), Web(1, ()))], [11, 11, 1, 1])

    def test_to_each_kin_web_lead_S(self):
        for web in SMALL[::3] + [ROUND, WAY, STAR]:
            for ties in list(slow_kin(web))[:6]:
                self.assertEqual(good_in_span(web, Web(web.knots, ties)), self_count(web))

    def test_kin_webs_and_other_names_have_one_T_and_S(self):
        draw = random.Random(1604)
        for web in SMALL[::2] + FIVES + SIXES + drawn_webs(20, least=7, seed=1605):
            for other in (drawn_kin(draw, web), drawn_renamed(draw, web)):
                self.assertEqual(
                    (choice_count(web), self_count(web)), (choice_count(other), self_count(other)))


class AllKin(Case):

    def test_by_turning_again_and_again(self):
        for web in SMALL + FIVES + SIXES[::2]:
            found = self.told(kin_webs, web)
            self.assertIs(type(found), tuple)
            self.assertEqual([kin.ties for kin in found], sorted(slow_kin(web)))
            self.assertTrue(all(isinstance(kin, Web) and kin.knots == web.knots for kin in found))
            self.assertEqual(self.told(least_kin, web), found[0])

    def test_lists(self):
        draw = random.Random(1606)
        for web in SMALL[::3] + FIVES[::3] + SIXES[::4] + [SIX, full_web(10), star_web(10), Web(10, ()), Web(7, ())]:
            right = tuple(Web(web.knots, ties) for ties in slow_kin(web))
            strange = drawn_web(draw, web.knots)
            while strange in right:
                strange = drawn_web(draw, web.knots) if web.knots > 1 else Web(2, ())
            for value in (right, right[::-1], tuple(draw.sample(right, len(right)))):
                self.judged(True, are_all_kin, web, value)
                self.judged(True, are_all_kin, right[-1], value)
            for value in (right[1:], right[:-1], right + right[:1], right + (strange,), right[:-1] + (strange,), (
                    strange,) + right[1:], list(right), right[1:] + (Web(web.knots % 10 + 1, ()),)):
                self.judged(False, are_all_kin, web, value)
            if len(right) > 1:
                self.judged(False, are_all_kin, web, right[1:] + right[1:2])
                self.judged(False, are_all_kin, strange, right)

    def test_another_class_as_large(self):
        """As many unlike kin webs, but of a web that is not kin."""
        other = renamed(WAY, (0, 2, 1, 3))
        self.assertEqual(kin_count(WAY), kin_count(other))
        self.judged(False, are_all_kin, WAY, kin_webs(other))
        self.judged(False, are_all_kin, other, kin_webs(WAY))
        # Some of the one's and some of the other's, each web once.
        for size in range(1, 11):
            self.judged(False, are_all_kin, WAY, kin_webs(WAY)[:size] + kin_webs(other)[size:])

    def test_wrong_values(self):
        for web in (WAY, Web(1, ()), Web(2, ((0, 1),))):
            right = kin_webs(web)
            for value in STRAYS + tuple(bent(right)) + (
                    (None,) * len(right), tuple(kin.ties for kin in right), (right,), right[0], right[:-1] + (None,),
                    right[:-1] + (right[-1].ties,), right[:-1] + (10 ** 5000,), right[:-1] + ([],), {"a": right}):
                self.judged(value in (right, kin_webs(Web(1, ()))) and type(value) is tuple and web == value[0],
                            are_all_kin, web, value)


class Named(Case):

    def slow_named(self, one, other):
        """All orders by which names lead the one to kin of the other."""
        kin = slow_kin(other)
        return [order for order in permutations(range(one.knots)) if renamed(one, order).ties in kin]

    def asked(self, one, other):
        """Asks for an order and turns, and looks at them; whether there are any."""
        paper = self.told(named_kin, one, other)
        self.judged(True, is_named_kin, one, other, paper)
        orders = self.slow_named(one, other)
        self.judged(not orders, is_named_kin, one, other, None)
        if paper is None:
            self.assertEqual(orders, [])
            return False
        order, row = paper
        self.assertIn(order, orders)
        self.assertLessEqual(len(row), 200)
        web = renamed(one, order)
        for knot in row:
            web = slow_turned(web, knot)
        self.assertEqual(web, other)
        return True

    def test_all_pairs_of_small_webs(self):
        for many in (1, 2, 3):
            for one, other in product(all_webs(many), repeat=2):
                self.asked(one, other)
        words = [self.asked(one, other) for one, other in list(product(all_webs(4), repeat=2))[::37]]
        self.assertEqual(set(words), {True, False})

    def test_five_and_six_knots(self):
        draw, words = random.Random(1607), []
        for web in FIVES[::3] + SIXES[::3] + [WHEEL]:
            self.assertTrue(self.asked(web, drawn_kin(draw, drawn_renamed(draw, web))))
            self.assertTrue(self.asked(web, web))
            words.append(self.asked(web, drawn_web(draw, web.knots)))
        self.assertIn(False, words)

    def test_all_orders(self):
        for one, other in ((WAY, CROSS), (STAR, full_web(4)), (WAY, STAR), (path_web(3), Web(3, ((0, 2), (1, 2))))):
            for order in permutations(range(one.knots)):
                for size in range(4):
                    for row in list(product(range(one.knots), repeat=size))[::3]:
                        right = turned_by(renamed(one, order), row) == other
                        self.judged(right, is_named_kin, one, other, (order, row))

    def test_200_turns_and_201(self):
        for many in (0, 1, 2, 199, 200, 201, 202):
            for one in (WAY, WHEEL):
                order = tuple(range(one.knots))
                self.judged(many % 2 == 0 and many <= 200, is_named_kin, one, one, (order, (1,) * many))
            self.judged(many <= 200, is_named_kin, Web(1, ()), Web(1, ()), ((0,), (0,) * many))

    def test_wrong_papers(self):
        right = ((0, 2, 1, 3), ())
        wrong = STRAYS + tuple(bent(right)) + (
            right[0], right[::-1], right + ((),), (right,), list(right), ((0, 1, 2, 3), ()), ((0, 2, 1), ()),
            ((0, 2, 1, 3, 4), ()), ((0, 2, 1, 1), ()), ((0, 2, 1, 3), (4,)), ((0, 2, 1, 3), (-1,)),
            ((0, 2, 1, 3), (None,)), ((0, 2, 1, 3), None), ((0, 2, 1, 3), []), ((0, 2, 1, 3), (1,)),
            ((0, 2, 1, 3), (0, False)), (None, ()), ("0213", ()), ((0, 2, True, 3), ()), (WAY, ()), (right[0], WAY))
        for value in wrong:
            self.judged(False, is_named_kin, WAY, CROSS, value)


class Refusals(Case):

    def test_web(self):
        for value in NO_WEBS:
            for function in (choice_count, self_count, kin_count, kin_webs, least_kin):
                self.refused(InvalidWeb, function, value)
            for paper in ((WAY,), (), None):
                self.refused(InvalidWeb, are_all_kin, value, paper)
            self.refused(InvalidWeb, named_kin, value, WAY)
            self.refused(InvalidWeb, named_kin, WAY, value)
            self.refused(InvalidWeb, named_kin, Web(7, ()), value)
            for paper in (None, ((0,), ()), ((0, 1, 2, 3), ())):
                self.refused(InvalidWeb, is_named_kin, value, WAY, paper)
                self.refused(InvalidWeb, is_named_kin, WAY, value, paper)

    def test_unlike_numbers_of_knots(self):
        for one, other in ((WAY, ROUND), (ROUND, WAY), (Web(7, ()), WHEEL), (WHEEL, Web(7, ())), (
                Web(8, ()), Web(7, ()))):
            self.refused(InvalidOperation, named_kin, one, other)
            for paper in (None, ((0, 1, 2, 3), ()), 0):
                self.refused(InvalidOperation, is_named_kin, one, other, paper)

    def test_seven_knots(self):
        for web in (Web(7, ()), SIX, full_web(8), Web(10, ())):
            for function in (kin_webs, least_kin):
                self.refused(TooMany, function, web, kept=("limit", 6))
            self.refused(TooMany, named_kin, web, web, kept=("limit", 6))
            for paper in (None, (tuple(range(web.knots)), ()), []):
                self.refused(TooMany, is_named_kin, web, web, paper, kept=("limit", 6))


class NotTrue(Case):
    """[16.5]"""

    def test_webs_with_one_T_and_S(self):
        self.same((choice_count(CROSS), self_count(CROSS)), (choice_count(WAY), self_count(WAY)))
        self.assertNotIn(CROSS.ties, slow_kin(WAY))

    def test_S_of_six(self):
        self.same(self_count(WHEEL), 3)

    def test_more_ties(self):
        self.assertGreater(len(full_web(4).ties), len(WAY.ties))
        self.assertLess(kin_count(full_web(4)), kin_count(WAY))

    def test_kin_with_other_names(self):
        """Two kin webs need not be alike but for names."""
        self.assertIn(full_web(4).ties, slow_kin(STAR))
        self.assertTrue(all(renamed(STAR, order) != full_web(4) for order in permutations(range(4))))


if __name__ == "__main__":
    unittest.main()
