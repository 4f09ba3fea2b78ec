"""Stage 23: claims, and one judge [23.1] to [23.4]."""

import random
import unittest
from itertools import product

from tests.helper import (
    DEEP, PATH, ROUND, STAR, STRAYS, WHEEL, Case, all_webs, among, bent, bit_rows, drawn_web, drawn_webs, edge_webs,
    full_web, in_one_piece, in_pieces, lots, path_web, round_web, slow_behind, slow_cut_rank, slow_kin, slow_turned,
    star_web, webs_up_to)
from tests.test_cores import ALL
from tests.test_marks import BARRED, slow_is_bar
from tests.test_rings import slow_web
from tests.test_sums import drawn_kin, drawn_renamed
from tests.test_twigs import slow_is_order
from tiedanew.bench.bench import Bench
from tiedanew.errors import InvalidClaim
from tiedanew.judge.claims import answered, is_claim, opposite, takes
from tiedanew.kin.sums import is_kin_or_bar, kin_or_bar, member_basis
from tiedanew.lesser.cores import is_ring_or_core, ring_or_core
from tiedanew.lesser.twigs import order_or_five
from tiedanew.ring.answers import ring_or_bar
from tiedanew.split.splits import splits
from tiedanew.tour.nets import net_of
from tiedanew.web.webs import Web, beside, renamed, turned

WAY = PATH
CROSS = Web(4, ((0, 2), (1, 2), (1, 3)))
PAIRS = (("asked", "barred"), ("split", "unsplit"), ("ring", "ringless"), ("order", "round"), ("kin", "strange"))
WORDS = [word for pair in PAIRS for word in pair]
OTHER = {**dict(PAIRS), **{other: word for word, other in PAIRS}}
WEBS = list(webs_up_to(4))[::3] + list(all_webs(5))[::97] + drawn_webs(25, seed=2301) + edge_webs() + BARRED + [ROUND]
WHOLE = [web for web in in_one_piece(WEBS) if web.knots >= 5]
ASKED = ((1, 1, 0), (0, 1, 1), (1, 0, 1))
NO_CLAIMS = STRAYS + (
    ("asked",), ("asked", ASKED), ("asked", ASKED, (0, 0)), ("asked", ASKED, (0, 0, 2)), ("asked", (), ()),
    ("asked", ASKED, [0, 0, 0]), ("asked", list(ASKED), (0, 0, 0)), ("asked", ((1, 1), (1,)), (0, 0)),
    ("barred", ((),), (0,)), ("barred", ASKED, (0, 0, True)), ("barred", ((1,) * 145,), (1,)), ("barred", ASKED, None),
    ("barred", ((1,),) * 1001, (1,) * 1001), ("asked", ASKED, (0, 0, 0), ()), ("asked", (0, 0, 0), ASKED),
    ("split", PATH), ("unsplit", PATH), ("split", beside(ROUND, Web(1, ()))), ("unsplit", Web(5, ())), ("split",),
    ("split", ROUND, ROUND), ("unsplit", ROUND, None), ("split", (0, 1)), ("ring",), ("ring", 6), ("ring", None),
    ("ring", (0, 0)), ("ringless", PATH, PATH), ("ring", [PATH]), ("order", ()), ("order", PATH, ()), ("round",),
    ("round", None), ("round", ROUND.ties), ("kin", PATH), ("kin", PATH, PATH, PATH), ("kin", PATH, ROUND),
    ("strange", ROUND, PATH), ("strange", PATH, None), ("strange", None, PATH), ("kin", (PATH, PATH)), ("kin",),
    ["ring", PATH], ("Ring", PATH), ("rings", PATH), ("", PATH), (None, PATH), (("ring",), PATH), ([], PATH), (PATH,
    "ring"),
    (PATH,), PATH, "ring", ("ring", Bench()), ("ring", net_of((0, 0))), {"ring": PATH}, ({}, PATH), (10 ** 99, PATH),
    DEEP, ("loops", PATH), ("kin", Bench(), Bench()), ("ring", PATH, None), ("ringless", ()), ("barred",))


def all_claims():
    """Claims of each of the ten words, with the smallest and the largest webs they take."""
    draw = random.Random(2302)
    for word in ("asked", "barred"):
        yield word, ((0,),), (1,)
        yield word, ((1,),), (0,)
        yield word, ASKED, (1, 1, 1)
        yield word, ((1,) * 144,) * 1000, (1,) * 1000
        for _ in range(20):
            rows = tuple(draw.choice(bit_rows(4)) for _ in range(draw.randint(1, 6)))
            yield word, rows, tuple(draw.randint(0, 1) for _ in rows)
    for word in ("split", "unsplit"):
        yield from ((word, web) for web in WHOLE)
    for word in ("ring", "ringless", "order", "round"):
        yield from ((word, web) for web in WEBS)
    for word in ("kin", "strange"):
        for web in WEBS:
            yield word, web, drawn_kin(draw, web)
            yield word, web, drawn_renamed(draw, web)
            yield word, web, drawn_web(draw, web.knots)


CLAIMS = list(all_claims())


class Examples(Case):

    def test_claims(self):
        self.same([is_claim(("ring", WHEEL)), is_claim(("ring", 6)), is_claim(("split", WAY)), opposite(
            ("kin", WAY, CROSS))[0]], [True, False, False, "strange"])
        self.refused(InvalidClaim, opposite, ("ring", 5))

    def test_papers(self):
        self.same([answered(("ring", WHEEL))[0][0], takes(("ringless", WHEEL), ("core", "five", (), (
            0, 1, 2, 3, 4, 5))), takes(("round", ROUND), ()), takes(("unsplit", ROUND), ()), takes(
            ("split", ROUND), (0, 1))], ["ringless", True, True, True, False])
        self.same([takes(("kin", WAY, turned(WAY, 1)), (1,)), takes(("strange", WAY, CROSS), ("cut", (1, 3))), takes(
            ("strange", WAY, CROSS), ("none", (0, 1, 2, 3), ()))], [True, True, True])
        self.same([takes(("order", WAY), ((0, "leaf", 1), (1, "leaf", 2), (2, "leaf", 3), (3, "alone", 3))), takes(
            ("asked", ((1, 1),), (1,)), (1, 0)), takes(("barred", ((1, 1), (1, 1)), (0, 1)), (0, 1))], [True] * 3)


class Claims(Case):

    def test_all_words(self):
        self.assertEqual({claim[0] for claim in CLAIMS}, set(WORDS))
        for claim in CLAIMS:
            self.judged(True, is_claim, claim)
            other = self.told(opposite, claim)
            self.assertEqual(other, (OTHER[claim[0]],) + claim[1:])
            self.judged(True, is_claim, other)
            self.assertEqual(opposite(other), claim)

    def test_no_claims(self):
        for value in NO_CLAIMS + tuple(bent(("asked", ASKED, (0, 1, 1)), 10 ** 99)):
            self.judged(False, is_claim, value)
            self.refused(InvalidClaim, opposite, value)
            self.refused(InvalidClaim, answered, value)
            for paper in ((), None):
                self.refused(InvalidClaim, takes, value, paper)
        for value in tuple(bent(("asked", ASKED, (0, 1, 1)))) + tuple(bent(("kin", PATH, CROSS))) + (
                10 ** 5000, (10 ** 5000,), ("ring", 10 ** 5000)):
            self.judged(False, is_claim, value)

    def test_webs_of_splits(self):
        """In one piece, of five knots at least."""
        for web in WEBS + list(all_webs(5))[::19]:
            for word in ("split", "unsplit"):
                self.judged(web.knots >= 5 and web not in in_pieces([web]), is_claim, (word, web))

    def test_unlike_numbers_of_knots(self):
        for one, other in product((Web(1, ()), Web(2, ()), PATH, STAR, ROUND, full_web(10)), repeat=2):
            for word in ("kin", "strange"):
                self.judged(one.knots == other.knots, is_claim, (word, one, other))


class JustOne(Case):
    """[23.2]"""

    def test_answered(self):
        for claim in CLAIMS:
            told, paper = self.told(answered, claim)
            self.assertIn(told, (claim, opposite(claim)))
            self.judged(True, takes, told, paper)
            self.judged(False, takes, opposite(told), paper)
            self.assertEqual(answered(opposite(claim))[0], told)

    def truth(self, *claim):
        return answered(claim)[0][0] == claim[0]

    def test_asked(self):
        for claim in [claim for claim in CLAIMS if claim[0] == "asked" and len(claim[1][0]) <= 4]:
            _, rows, goal = claim
            right = [row for row in bit_rows(len(rows[0])) if tuple(
                sum(a * b for a, b in zip(row, each)) % 2 for each in rows) == goal]
            self.assertEqual(self.truth(*claim), bool(right))
            for row in bit_rows(len(rows[0])):
                self.judged(row in right, takes, claim, row)
            bars = [pick for pick in lots(len(rows)) if sum(goal[k] for k in pick) % 2 == 1 and not any(
                sum(rows[k][at] for k in pick) % 2 for at in range(len(rows[0])))]
            self.assertEqual(bool(bars), not right)
            for pick in lots(len(rows)):
                self.judged(pick in bars, takes, opposite(claim), pick)

    def test_splits(self):
        for web in WHOLE + [round_web(10), full_web(5)]:
            right = [lot for lot in lots(web.knots) if 0 in lot and 2 <= len(lot) <= web.knots - 2
                     and slow_cut_rank(web, lot) <= 1]
            self.assertEqual(self.truth("split", web), bool(right))
            self.judged(not right, takes, ("unsplit", web), ())
            for lot in lots(web.knots)[::1 if web.knots < 8 else 7] + right:
                self.judged(lot in right, takes, ("split", web), lot)
            self.same(tuple(sorted(right)), splits(web))

    def test_rings(self):
        for web in WEBS:
            word, told = ring_or_bar(web)
            self.assertEqual(self.truth("ring", web), word == "ring")
            if word == "ring":
                for ring in (told, told[::-1], told[1:] + told[:1]):
                    self.judged(True, takes, ("ring", web), ring)
                    self.judged(False, takes, ("ringless", web), ring)
                    self.judged(False, takes, ("ringless", web), ("ring", ring))
                self.judged(False, takes, ("ring", web), ("ring", told))
                self.assertEqual(slow_web(answered(("ring", web))[1]), web)
            else:
                # A ringless web has papers of both sorts.
                for paper in ((word, told), ring_or_core(web), answered(("ring", web))[1]):
                    self.judged(True, takes, ("ringless", web), paper)
                    self.judged(False, takes, ("ring", web), paper)
                self.assertTrue(slow_is_bar(web, told))

    def test_cores(self):
        for word, web in ALL:
            order = tuple(range(web.knots))
            self.judged(True, takes, ("ringless", web), ("core", word, (), order))
            for many in (198, 199, 200, 201, 202):
                paper = ("core", word, (("turn", 0),) * many, order)
                self.judged(many % 2 == 0 and many <= 200, takes, ("ringless", web), paper)
                self.judged(is_ring_or_core(web, paper), takes, ("ringless", web), paper)

    def test_orders(self):
        for web in WEBS:
            word, told = order_or_five(web)
            self.assertEqual(self.truth("order", web), word == "order")
            if word == "order":
                self.assertTrue(slow_is_order(web, told))
                self.judged(True, takes, ("order", web), told)
                self.judged(False, takes, ("round", web), told)
            else:
                close = [len([tie for tie in slow_behind(web, told).ties if v in tie]) for v in range(5)]
                self.assertEqual(close, [2] * 5)
                self.judged(True, takes, ("round", web), told)
                self.judged(False, takes, ("order", web), told)
        for many in (199, 200, 201, 202):
            self.judged(many == 200, takes, ("round", ROUND), (("turn", 0),) * many)

    def test_kin(self):
        for one, other in list(product(all_webs(3), repeat=2)) + list(product(all_webs(4), repeat=2))[::61]:
            kin = other.ties in slow_kin(one)
            self.assertEqual(self.truth("kin", one, other), kin)
            paper = kin_or_bar(one, other)
            self.judged(kin, takes, ("kin", one, other), paper[1])
            self.judged(not kin, takes, ("strange", one, other), paper)
            for size in range(3):
                for row in product(range(one.knots), repeat=size):
                    behind = one
                    for knot in row:
                        behind = slow_turned(behind, knot)
                    self.judged(behind == other, takes, ("kin", one, other), row)
                    self.judged(False, takes, ("strange", one, other), ("turns", row))
            for lot in lots(one.knots):
                right = slow_cut_rank(one, lot) != slow_cut_rank(other, lot)
                self.judged(right, takes, ("strange", one, other), ("cut", lot))
                self.judged(False, takes, ("kin", one, other), ("cut", lot))

    def test_none(self):
        for one, other in ((WAY, CROSS), (ROUND, full_web(5)), (STAR, CROSS), (WAY, turned(WAY, 1))):
            lot, basis = tuple(range(one.knots)), member_basis(one, other)
            for value in (basis, basis[1:], basis[::-1], (), basis + basis[:1]):
                paper = ("none", lot, value)
                right = other.ties not in slow_kin(one) and sorted(value) == sorted(basis)
                self.judged(right, takes, ("strange", one, other), paper)
                self.judged(is_kin_or_bar(one, other, paper), takes, ("strange", one, other), paper)

    def test_200_turns_and_201(self):
        for many in (0, 199, 200, 201, 202):
            self.judged(many % 2 == 0 and many <= 200, takes, ("kin", WAY, WAY), (1,) * many)


class Papers(Case):

    def rights(self):
        yield ("asked", ASKED, (1, 0, 1)), [(1, 0, 0), (0, 1, 1)]
        yield ("barred", ASKED, (1, 1, 1)), [(0, 1, 2)]
        yield ("split", path_web(5)), [(0, 1), (0, 1, 2)]
        yield ("unsplit", ROUND), [()]
        yield ("ring", path_web(2)), [(0, 1, 0, 1), (1, 0, 1, 0)]
        yield ("order", Web(1, ())), [((0, "alone", 0),)]
        yield ("round", ROUND), [()]
        yield ("kin", Web(1, ()), Web(1, ())), [(), (0,), (0, 0)]
        yield ("strange", path_web(2), Web(2, ())), [("cut", (0,)), ("cut", (1,))]

    def test_nothing_else(self):
        for claim, right in self.rights():
            for paper in right:
                self.judged(True, takes, claim, paper)
            wrong = STRAYS + NO_CLAIMS + tuple(value for paper in right for value in bent(paper)) + tuple(
                (word, paper) for paper in right for word in ("bits", "bar", "ring", "order", "five", "turns",
                "cut")) + (
                ("turn", 0), (("turn", 0),), (("leave", 0),), ("none", (0, 1), ()), ("none", (), ()), ("none",),
                ("cut",),
                ("bar",), ("core",), ("bar", ()), ("core", "five", (), ()), (10 ** 5000,), 10 ** 5000, Bench(),
                (Bench(),))
            for value in wrong:
                if not among(value, right):
                    self.judged(False, takes, claim, value)

    def test_wrong_papers_of_great_claims(self):
        claims = (("ringless", WHEEL), ("order", WAY), ("kin", WAY, turned(WAY, 1)), ("strange", WAY, CROSS), (
            "round", WHEEL), ("ring", ROUND), ("split", star_web(6)))
        for claim in claims:
            paper = answered(claim)[1]
            self.judged(True, takes, claim, paper)
            for value in tuple(bent(paper)) + ((paper,), list(paper), paper + (None,), (claim[0], paper), None, "", {}):
                if not among(value, [paper]):
                    self.judged(False, takes, claim, value)


class NotTrue(Case):
    """[23.4]"""

    def test_two_papers(self):
        claim = ("kin", WAY, WAY)
        self.same([takes(claim, ()), takes(claim, (1, 1))], [True, True])

    def test_a_ringless_web_without_a_split(self):
        self.same(answered(("split", WHEEL))[0][0], "unsplit")
        self.same(answered(("ring", WHEEL))[0][0], "ringless")

    def test_neither_order_nor_ring(self):
        self.same([answered((word, WHEEL))[0][0] for word in ("order", "ring")], ["round", "ringless"])

    def test_a_bar_without_all_rows(self):
        claim = ("barred", ASKED + ((1, 1, 1),), (1, 1, 1, 0))
        self.same(answered(claim), (claim, (0, 1, 2)))

    def test_other_names_are_no_kin(self):
        self.assertTrue(any(answered(("kin", WAY, renamed(WAY, order)))[0][0] == "strange" for order in (
            (0, 2, 1, 3), (1, 0, 2, 3))))


if __name__ == "__main__":
    unittest.main()
