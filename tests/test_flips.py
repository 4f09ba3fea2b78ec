"""Stage 10: shares and flips [10.1] to [10.5]."""

import random
import unittest
from itertools import combinations_with_replacement, product

from tests.helper import (
    PATH, ROUND, STAR, STRAYS, WHEEL, Case, all_webs, among, bent, full_web, pairs_of, path_web, slow_cut_rank,
    slow_kin, star_web, webs_up_to)
from tests.test_answers import slow_form, slow_rings
from tests.test_rings import FIVER, LONG, SMALL, WRONG_RINGS, about, all_rings, drawn_ring, drawn_rings, slow_web
from tests.test_splits import slow_splits
from tests.test_webs import NO_WEBS
from tiedanew.errors import InvalidOperation, InvalidRing, InvalidWeb, TooMany
from tiedanew.ring.flips import (
    cuts, flipped, flips_or_pair, is_cut, is_flips_or_pair, rings_of, share_of)
from tiedanew.ring.rings import least_form
from tiedanew.web.webs import Web, beside

SIDE, NEST, RING = (0, 0, 1, 1, 2, 2), (0, 1, 1, 0, 2, 2), (0, 1, 4, 0, 3, 4, 2, 3, 1, 2)
FLIPS = ("reverse", "exchange", "both")
FOURS = list(all_rings(4))
TRIED = SMALL[::3] + FOURS[::211] + drawn_rings(4, least=5, most=5, seed=1001) + [SIDE, NEST, RING]
NO_WORDS = STRAYS + ("Reverse", "reverses", "exchange ", "BOTH", ("both",), ["both"], {"both": 1}, "flip", "turn")
FIVES = [Web(5, ()), Web(5, ((0, 1),)), Web(5, ((0, 1), (2, 3))), full_web(5), star_web(5), path_web(5), ROUND, Web(
    5, ((0, 1), (0, 2), (0, 3))), beside(PATH, Web(1, ()))] + list(all_webs(5))[37::97]


def quadruples(ring):
    return list(combinations_with_replacement(range(len(ring) + 1), 4))


def stretches(ring, cut):
    """The stretches s, p, r, q, t."""
    places = (0,) + cut + (len(ring),)
    return [ring[low:high] for low, high in zip(places, places[1:])]


def slow_is_cut(ring, cut):
    """No chord has one end in p or q and the other one in s, r or t."""
    s, p, r, q, t = stretches(ring, cut)
    return not set(p + q) & set(s + r + t)


def slow_flipped(ring, cut, word):
    s, p, r, q, t = stretches(ring, cut)
    return {"reverse": s + p[::-1] + r + q[::-1] + t, "exchange": s + q + r + p + t,
            "both": s + q[::-1] + r + p[::-1] + t}[word]


class Examples(Case):

    def test_cuts(self):
        self.same([is_cut(SIDE, (0, 1, 1, 4)), share_of(SIDE, (0, 1, 1, 4)), len(cuts(SIDE)), is_cut(
            RING, (0, 1, 2, 4)), share_of(RING, (0, 1, 3, 4))], [True, (0, 1), 71, False, (0,)])

    def test_flips(self):
        self.same([flipped(SIDE, (0, 1, 1, 4), word) for word in FLIPS], [
            (0, 1, 1, 0, 2, 2), (0, 1, 1, 0, 2, 2), (1, 1, 0, 0, 2, 2)])

    def test_rings(self):
        self.same([len(rings_of(Web(3, ()))), rings_of(Web(2, ((0, 1),))), rings_of(slow_web(RING))], [
            4, ((0, 1, 0, 1),), (RING,)])

    def test_papers(self):
        self.same([flips_or_pair(SIDE, NEST)[0], flips_or_pair(SIDE, (0, 1, 2, 0, 1, 2))[0]], ["flips", "pair"])
        self.judged(True, is_flips_or_pair, SIDE, NEST, ("flips", (((0, 1, 1, 4), "reverse"),)))

    def test_error(self):
        self.refused(InvalidOperation, flipped, RING, (0, 1, 2, 4), "both")


class Cuts(Case):

    def test_all_quadruples_of_places(self):
        for ring in TRIED:
            right = tuple(cut for cut in quadruples(ring) if slow_is_cut(ring, cut))
            self.same(self.told(cuts, ring), right)
            for cut in quadruples(ring):
                self.judged(cut in right, is_cut, ring, cut)

    def test_ten_chords(self):
        for ring in (LONG, tuple(k // 2 for k in range(20)), drawn_rings(1, least=10, seed=1002)[0]):
            self.same(cuts(ring), tuple(cut for cut in quadruples(ring) if slow_is_cut(ring, cut)))
        self.same(len(cuts(LONG)), len(set(cuts(LONG))))

    def test_one_chord(self):
        self.same(cuts((0, 0)), tuple(cut for cut in quadruples((0, 0)) if slow_is_cut((0, 0), cut)))
        self.judged(True, is_cut, (0, 0), (0, 1, 1, 2))
        self.judged(True, is_cut, (0, 0), (0, 2, 2, 2))
        self.judged(False, is_cut, (0, 0), (0, 1, 2, 2))

    def test_two_lots_of_neighbours(self):
        """Each two stretches, going round, that hold both ends of their chords are p and q, or r and t s [10.1]."""
        for ring in (SIDE, NEST, (0, 1, 0, 2, 1, 2), (0, 1, 2, 3, 0, 3, 2, 1)):
            many = len(ring)
            found = {frozenset(spots) for cut in cuts(ring) for a, b, c, d in [cut]
                     for spots in [(frozenset(range(a, b)), frozenset(range(c, d))),
                                   (frozenset(range(b, c)), frozenset(range(d, many)) | frozenset(range(a)))]}
            around = [frozenset((low + k) % many for k in range(size))
                      for low in range(many) for size in range(many + 1)]
            for one, other in product(around, repeat=2):
                inside = [ring[at] for at in one | other]
                if not one & other and all(inside.count(v) == 2 for v in inside):
                    self.assertIn(frozenset((one, other)), found)

    def test_no_cuts(self):
        wrong = STRAYS + tuple(bent((0, 1, 1, 4))) + (
            (), (0,), (0, 1, 1), (0, 1, 1, 4, 4), (0, 1, 4, 1), (1, 0, 1, 4), (4, 1, 1, 0), (0, 1, 1, 7), (-6, 1, 1, 4),
            (0, True, True, 4), (False, 1, 1, 4), [0, 1, 1, 4], "0114", (0, 1, 1, None), (0, 0, 0, 1), (0, 1, 2, 4))
        for value in wrong:
            self.judged(False, is_cut, SIDE, value)
        for ring in (SIDE, RING, LONG):
            for cut in ((0, 0, 0, 0), (0, 0, 0, len(ring)), (0, len(ring), len(ring), len(ring)), (1, 1, 2, 2)):
                self.judged(True, is_cut, ring, cut)
            self.judged(False, is_cut, ring, (0, 0, 0, len(ring) + 1))
            self.judged(False, is_cut, ring, (len(ring) + 1,) * 4)


class SharesAndFlips(Case):

    def test_by_stretches(self):
        for ring in TRIED:
            web = slow_web(ring)
            for cut in cuts(ring)[::5 if len(ring) > 8 else 1]:
                s, p, r, q, t = stretches(ring, cut)
                share = self.told(share_of, ring, cut)
                self.same(share, tuple(sorted(set(p + q))))
                self.assertLessEqual(slow_cut_rank(web, share), 1)
                for word in FLIPS:
                    behind = self.told(flipped, ring, cut, word)
                    self.same(behind, slow_flipped(ring, cut, word))
                    self.assertEqual(slow_web(behind), web)

    def test_ten_chords(self):
        draw = random.Random(1003)
        for ring in drawn_rings(5, least=8, most=10, seed=1004) + [LONG]:
            for cut in draw.sample(cuts(ring), 40):
                share = share_of(ring, cut)
                self.assertLessEqual(slow_cut_rank(slow_web(ring), share), 1)
                for word in FLIPS:
                    behind = flipped(ring, cut, word)
                    self.same(behind, slow_flipped(ring, cut, word))
                    self.assertEqual(slow_web(behind), slow_web(ring))

    def test_rows_of_a_share(self):
        """Against all others they are alike, but for those of 0 [10.3]."""
        for ring in TRIED:
            web = slow_web(ring)
            for cut in cuts(ring)[::7]:
                share = share_of(ring, cut)
                beyond = [w for w in range(web.knots) if w not in share]
                rows = {tuple(w for w in beyond if (v, w) in web.ties or (w, v) in web.ties) for v in share}
                self.assertLessEqual(len(rows - {()}), 1)

    def test_each_split_is_a_share(self):
        for web in list(webs_up_to(4)) + list(all_webs(5))[::29]:
            shares = {share_of(ring, cut) for ring in rings_of(web) for cut in cuts(ring)}
            for lot in slow_splits(web):
                beyond = tuple(v for v in range(web.knots) if v not in lot)
                self.assertTrue(lot in shares or beyond in shares)


class RingsOfWebs(Case):

    def test_by_all_rings(self):
        by_web = {}
        for ring in SMALL + FOURS:
            by_web.setdefault((len(ring) // 2,) + slow_web(ring).ties, set()).add(slow_form(ring))
        for web in webs_up_to(4):
            self.same(self.told(rings_of, web), tuple(sorted(by_web[(web.knots,) + web.ties])))

    def test_five_knots(self):
        for web in FIVES:
            self.same(self.told(rings_of, web), tuple(sorted({slow_form(ring) for ring in slow_rings(web)})))

    def test_unsplit(self):
        for ties in list(slow_kin(ROUND))[::3]:
            self.assertEqual(len(rings_of(Web(5, ties))), 1)


class FlipsOrPair(Case):

    def asked(self, one, other):
        """Asks for one of both, and looks at it; its word."""
        paper = self.told(flips_or_pair, one, other)
        self.judged(True, is_flips_or_pair, one, other, paper)
        ties, other_ties = set(slow_web(one).ties), set(slow_web(other).ties)
        if paper[0] == "pair":
            self.assertEqual(len(paper), 3)
            self.assertIn(paper[1:], ties ^ other_ties)
        else:
            word, row = paper
            self.assertEqual(word, "flips")
            self.assertLessEqual(len(row), 200)
            ring = one
            for cut, flip in row:
                self.assertTrue(slow_is_cut(ring, cut))
                ring = slow_flipped(ring, cut, flip)
            self.assertEqual(slow_form(ring), slow_form(other))
            self.assertEqual(ties, other_ties)
        self.assertEqual(paper[0] == "flips", ties == other_ties)
        return paper[0]

    def test_small_rings(self):
        for many in (1, 2, 3):
            rings = list(all_rings(many))
            for one in rings[::7 if many == 3 else 1]:
                for other in rings[::2 if many == 3 else 1]:
                    self.asked(one, other)

    def test_all_rings_of_webs_to_four_knots(self):
        for web in webs_up_to(4):
            rings = rings_of(web)
            for one in rings[:6]:
                for other in rings:
                    self.assertEqual(self.asked(one, other), "flips")

    def test_rings_of_webs_of_five_knots(self):
        draw = random.Random(1005)
        for web in FIVES:
            rings = rings_of(web)
            for other in rings[::max(1, len(rings) // 5)]:
                one = rings[-1]
                by = draw.randrange(10)
                self.assertEqual(self.asked(about(one)[by][::-1], other), "flips")

    def test_drawn_rings(self):
        draw, words = random.Random(1006), []
        for _ in range(60):
            many = draw.randint(1, 5)
            words.append(self.asked(drawn_ring(draw, many), drawn_ring(draw, many)))
        for ring in drawn_rings(30, least=2, most=5, seed=1007):
            other = ring
            for _ in range(4):
                other = flipped(other, draw.choice(cuts(other)), draw.choice(FLIPS))
            words.append(self.asked(ring, draw.choice(about(other))))
        self.assertEqual(set(words), {"flips", "pair"})

    def test_like_rings(self):
        for ring in (FIVER, SIDE, (0, 0)):
            for other in about(ring) + about(ring[::-1]):
                self.assertEqual(self.asked(ring, other), "flips")
                self.judged(True, is_flips_or_pair, ring, other, ("flips", ()))

    def test_all_pairs(self):
        rings = list(all_rings(3))
        for one in rings[::11]:
            for other in rings[::3]:
                unlike = set(slow_web(one).ties) ^ set(slow_web(other).ties)
                for v, w in product(range(-1, 4), repeat=2):
                    self.judged((v, w) in unlike, is_flips_or_pair, one, other, ("pair", v, w))
        for pair in pairs_of(5):
            self.judged(pair in {(0, 1), (0, 4), (1, 2), (2, 3), (3, 4)}, is_flips_or_pair, FIVER, tuple(
                k // 2 for k in range(10)), ("pair",) + pair)

    def test_all_single_flips(self):
        pairs = ((SIDE, NEST), (NEST, SIDE), ((0, 1, 2, 0, 2, 1), (0, 2, 1, 0, 1, 2)), (SIDE, (0, 1, 0, 1, 2, 2)))
        for one, other in pairs:
            for cut in quadruples(one):
                for word in FLIPS:
                    right = slow_is_cut(one, cut) and slow_form(slow_flipped(one, cut, word)) == slow_form(other)
                    self.judged(right, is_flips_or_pair, one, other, ("flips", ((cut, word),)))

    def test_how_many_flips(self):
        nothing = ((0, 0, 0, 0), "both")
        for ring in (SIDE, FIVER, (0, 0)):
            self.judged(True, is_flips_or_pair, ring, ring, ("flips", (nothing,) * 200))
            self.judged(False, is_flips_or_pair, ring, ring, ("flips", (nothing,) * 201))
        there = ((0, 1, 1, 4), "reverse")
        self.judged(True, is_flips_or_pair, SIDE, NEST, ("flips", (nothing,) * 199 + (there,)))
        self.judged(False, is_flips_or_pair, SIDE, NEST, ("flips", (nothing,) * 200))
        # Each cut is one of the ring behind the flips ahead.
        self.judged(True, is_flips_or_pair, SIDE, SIDE, ("flips", (there, ((0, 4, 4, 4), "reverse"), there)))
        nest = ((0, 2, 2, 2), "both")
        self.judged(False, is_flips_or_pair, SIDE, SIDE, ("flips", (nest, there, nest)))

    def test_wrong_papers(self):
        right = ("flips", (((0, 1, 1, 4), "reverse"),))
        wrong = STRAYS + tuple(bent(right)) + (
            ("flips",), ("flips", ()), right[1], ("flips", right[1], ()), ("flips", list(right[1])), list(right),
            ("flips", right[1][0]), ("flips", (((0, 1, 1, 4),),)), ("flips", (((0, 1, 1, 4), "reverse", 0),)),
            ("flips", (((0, 1, 1, 4), "turn"),)), ("flips", (((0, 1, 2, 4), "reverse"),)), ("pair", 0, 1),
            ("flips", (("reverse", (0, 1, 1, 4)),)), ("pair", (0, 1)), ("flips", (((0, 1, 1, 4), None),)))
        for value in wrong:
            if not among(value, [right]):
                self.judged(False, is_flips_or_pair, SIDE, NEST, value)
        for word in NO_WORDS:
            self.judged(False, is_flips_or_pair, SIDE, SIDE, ("flips", (((0, 0, 0, 0), word),)))
        other, pair = (0, 1, 0, 1, 2, 2), ("pair", 0, 1)
        self.judged(True, is_flips_or_pair, SIDE, other, pair)
        wrong = STRAYS + tuple(bent(pair)) + (
            ("pair", 1, 0), ("pair", 0, 2), ("pair", 1, 2), ("pair", 0, 0), ("pair", 0, 1, 2), ("pair", 0), ("pair",),
            ("pair", False, 1), ("pair", 0, True), ("pair", -3, 1), ("flips", ()), ["pair", 0, 1], ("pair", (0, 1)),
            ("flips", 0, 1), ("pair", None, 1), ("cut", 0, 1))
        for value in wrong:
            self.judged(False, is_flips_or_pair, SIDE, other, value)


class Refusals(Case):

    def test_ring(self):
        for value in WRONG_RINGS:
            self.refused(InvalidRing, cuts, value)
            for function in (is_cut, share_of):
                self.refused(InvalidRing, function, value, (0, 0, 0, 0))
                self.refused(InvalidRing, function, value, None)
            self.refused(InvalidRing, flipped, value, (0, 0, 0, 0), "both")
            self.refused(InvalidRing, flipped, value, None, None)
            for function, more in ((flips_or_pair, ()), (is_flips_or_pair, (("flips", ()),))):
                self.refused(InvalidRing, function, value, SIDE, *more)
                self.refused(InvalidRing, function, SIDE, value, *more)
                self.refused(InvalidRing, function, LONG, value, *more)
                self.refused(InvalidRing, function, value, value, *more)

    def test_cut_and_word(self):
        wrong = STRAYS + ((0, 1, 2, 4), (0, 1, 1, 11), (0, 1, 1), (4, 1, 1, 0), [0, 1, 1, 4], (-1, 0, 0, 0),
                          (0, 0, 0, True), (0, 0, 0, 10 ** 60))
        for value in wrong:
            self.refused(InvalidOperation, share_of, RING, value)
            for word in FLIPS + (None,):
                self.refused(InvalidOperation, flipped, RING, value, word)
        for value in NO_WORDS:
            self.refused(InvalidOperation, flipped, SIDE, (0, 1, 1, 4), value)
        self.same(share_of(RING, (0, 10, 10, 10)), (0, 1, 2, 3, 4))

    def test_web(self):
        for value in NO_WEBS:
            self.refused(InvalidWeb, rings_of, value)
        for web in (Web(6, ()), WHEEL, full_web(10)):
            self.refused(TooMany, rings_of, web, kept=("limit", 5))

    def test_two_rings(self):
        for function, more in ((flips_or_pair, ()), (is_flips_or_pair, (("flips", ()),)), (is_flips_or_pair, (None,))):
            for one, other in ((SIDE, (0, 0)), ((0, 0), LONG), (LONG, LONG[:6] + LONG[:6]), (FIVER, SIDE)):
                self.refused(InvalidOperation, function, one, other, *more)
            for many in (6, 10):
                ring = LONG[:many] * 2
                self.refused(TooMany, function, ring, ring, *more, kept=("limit", 5))
        self.same(flips_or_pair(LONG[:5] * 2, LONG[:5] * 2)[0], "flips")


class NotTrue(Case):
    """[10.5]"""

    def test_rings_of_one_web(self):
        self.assertEqual(slow_web(SIDE), slow_web((0, 1, 2, 2, 1, 0)))
        self.assertNotEqual(least_form(SIDE), least_form((0, 1, 2, 2, 1, 0)))
        self.assertGreater(len(rings_of(STAR)), 1)

    def test_a_lot_of_cut_rank_1_that_is_no_share(self):
        ring = (0, 1, 2, 3, 0, 3, 2, 1)
        self.assertEqual(slow_cut_rank(slow_web(ring), (1, 3)), 1)
        self.assertNotIn((1, 3), {share_of(ring, cut) for cut in cuts(ring)})

    def test_a_flip_to_a_like_ring(self):
        behind = flipped(SIDE, (0, 2, 2, 2), "reverse")
        self.same([share_of(SIDE, (0, 2, 2, 2)), least_form(behind)], [(0,), least_form(SIDE)])


if __name__ == "__main__":
    unittest.main()
