"""Stage 9: a ring, or a bar [9.1] to [9.5], and what [0.14] and [0.18] tell of rings."""

import random
import unittest

from tests.helper import (
    PATH, ROUND, STAR, STRAYS, WHEEL, Case, all_webs, among, bent, drawn_webs, edge_webs, full_web, in_one_piece,
    path_web, round_web, slow_kin, slow_left_out, slow_near, slow_turned, star_web, webs_up_to)
from tests.test_marks import BARRED, PRISM, slow_is_bar, slow_sums
from tests.test_partings import drawn_great_webs
from tests.test_rings import FIVER, NO_RINGS, about, all_rings, drawn_rings, slow_web
from tests.test_webs import NO_WEBS
from tiedanew.errors import InvalidNumber, InvalidWeb, TooMany
from tiedanew.ring import answers
from tiedanew.ring.answers import forms_of, has_ring, is_ring_or_bar, ring_or_bar, star_ring, tied_ring
from tiedanew.ring.marks import marks_or_bar
from tiedanew.ring.rings import mirrored, turned_ring
from tiedanew.split.partings import parts
from tiedanew.split.splits import is_unsplit, joined_at
from tiedanew.web.webs import Web, beside, left_out, turned, turned_by

SIXES = [web for web in drawn_webs(60, least=6, most=6, seed=901)]
GREAT = drawn_webs(80, least=6, seed=902) + drawn_great_webs(30, 903) + edge_webs() + [
    beside(ROUND, STAR), beside(PATH, path_web(6)), beside(WHEEL, STAR), joined_at(ROUND, round_web(7), (0, 3, 5, 8)),
    joined_at(WHEEL, round_web(5), (1, 2, 4, 6, 7)), beside(Web(3, ()), round_web(7))]


def slow_rings(web):
    """All rings with this web that begin with 0: end behind end, each chord being looked at when it is closed."""
    close = [set(slow_near(web, v)) for v in range(web.knots)]

    def put(ring):
        if len(ring) == 2 * web.knots:
            yield tuple(ring)
            return
        for v in range(web.knots):
            count = ring.count(v)
            if count == 0:
                yield from put(ring + [v])
            elif count == 1:
                between = ring[ring.index(v) + 1:]
                if {w for w in between if between.count(w) == 1} == close[v]:
                    yield from put(ring + [v])
    yield from put([0])


def slow_form(ring):
    return min(about(ring) + about(ring[::-1]))


class Examples(Case):

    def test_rings_and_bars(self):
        self.same(ring_or_bar(WHEEL)[0], "bar")
        self.judged(True, has_ring, slow_web(FIVER))
        self.judged(True, is_ring_or_bar, slow_web(FIVER), ("ring", FIVER))
        self.judged(True, is_ring_or_bar, slow_web(FIVER), ("ring", mirrored(FIVER)))

    def test_forms(self):
        self.same([forms_of(Web(2, ())), forms_of(Web(2, ((0, 1),))), len(forms_of(slow_web(FIVER))), len(
            forms_of(Web(3, ())))], [((0, 0, 1, 1),), ((0, 1, 0, 1),), 1, 4])

    def test_stars_and_tied_ones(self):
        self.same([star_ring(3), tied_ring(3)], [(0, 1, 2, 0, 2, 1), (0, 1, 2, 0, 1, 2)])
        self.same([slow_web(star_ring(4)).ties, len(slow_web(tied_ring(4)).ties)], [((0, 1), (0, 2), (0, 3)), 6])

    def test_error_and_constant(self):
        self.refused(TooMany, forms_of, WHEEL, kept=("limit", 5))
        self.same(answers.MOST_LISTED, 5)


class EitherOr(Case):

    def asked(self, web):
        """Asks for one of both, and looks at it; its word."""
        word, told = paper = self.told(ring_or_bar, web)
        self.judged(True, is_ring_or_bar, web, paper)
        self.judged(word == "ring", has_ring, web)
        if word == "ring":
            self.assertEqual(slow_web(told), web)
        else:
            self.assertEqual(word, "bar")
            self.assertTrue(told)
            self.assertEqual(list(told), sorted(set(told)))
            self.assertTrue(slow_is_bar(web, told))
        self.same(marks_or_bar(web)[0], {"ring": "marks", "bar": "bar"}[word])
        return word

    def test_all_webs_to_five_knots(self):
        for web in list(webs_up_to(4)) + list(all_webs(5)):
            self.assertEqual(self.asked(web), "ring")

    def test_six_knots_by_trying_rings(self):
        words = []
        for web in SIXES + [WHEEL, PRISM, turned(WHEEL, 1), turned_by(WHEEL, (3, 0, 2)), round_web(6), star_web(6)]:
            word = self.asked(web)
            words.append(word)
            self.assertEqual(word == "ring", next(slow_rings(web), None) is not None)
        self.assertGreater(min(words.count("ring"), words.count("bar")), 3)

    def test_many_to_ten_knots(self):
        words = [self.asked(web) for web in GREAT + BARRED]
        self.assertGreater(min(words.count("ring"), words.count("bar")), 10)

    def test_bars_show_that_there_is_no_ring(self):
        for web in BARRED:
            self.assertEqual(self.asked(web), "bar")
            if web.knots < 9:
                self.assertIsNone(next(slow_rings(web), None))

    def test_webs_of_rings(self):
        for ring in drawn_rings(150, least=1, most=10, seed=904):
            self.assertEqual(self.asked(slow_web(ring)), "ring")
            self.judged(True, is_ring_or_bar, slow_web(ring), ("ring", ring))

    def test_exactly_if_each_part_has_one(self):
        words = []
        barred = [joined_at(WHEEL, STAR, (0, 1, 2, 4, 6)), joined_at(PRISM, ROUND, (0, 2, 4, 6, 8))]
        for web in in_one_piece(GREAT + barred):
            told = [has_ring(Web(len(ends), ties)) for _, ends, ties in parts(web)]
            self.judged(all(told), has_ring, web)
            words += [all(told)] if len(told) > 1 else []
        self.assertEqual(set(words), {True, False})


class Judge(Case):

    def test_every_ring_of_the_web(self):
        for web in list(webs_up_to(3)) + [STAR, PATH, ROUND]:
            for ring in all_rings(web.knots) if web.knots < 4 else slow_rings(web):
                self.judged(slow_web(ring) == web, is_ring_or_bar, web, ("ring", ring))
        for ring in all_rings(4):
            self.judged(slow_web(ring) == PATH, is_ring_or_bar, PATH, ("ring", ring))

    def test_wrong_papers(self):
        bar = ring_or_bar(WHEEL)
        for web, right in ((slow_web(FIVER), ("ring", FIVER)), (WHEEL, bar), (Web(1, ()), ("ring", (0, 0)))):
            self.judged(True, is_ring_or_bar, web, right)
            wrong = STRAYS + tuple(bent(right)) + NO_RINGS + tuple(("ring", value) for value in NO_RINGS) + (
                ("bar", ()), ("bar", (0,)), ("ring", ()), ("bar", right[1]), ("ring", right[1]), right[1], right[::-1],
                (right,), right + right, ("marks", right[1]), ("ring",), ("ring", right[1], right[1]), list(right))
            for value in wrong:
                if not among(value, [right]):
                    self.judged(False, is_ring_or_bar, web, value)
        for web in (PATH, WHEEL, Web(2, ())):
            self.judged(False, is_ring_or_bar, web, ("ring", FIVER))
            self.judged(False, is_ring_or_bar, web, ("ring", (0, 1, 0, 1)))
        # Right marks are no paper here.
        self.judged(False, is_ring_or_bar, PATH, marks_or_bar(PATH))
        self.judged(False, is_ring_or_bar, PATH, bar)

    def test_all_bars_but_one_sum(self):
        bar = ring_or_bar(WHEEL)[1]
        for index in range(max(bar) + 8):
            other = tuple(sorted(set(bar) ^ {index}))
            if index < len(slow_sums(WHEEL)):
                self.judged(slow_is_bar(WHEEL, other), is_ring_or_bar, WHEEL, ("bar", other))
            else:
                self.judged(False, is_ring_or_bar, WHEEL, ("bar", other))


class Kept(Case):
    """[9.3]"""

    def test_kin_and_lesser_webs_have_rings(self):
        draw = random.Random(905)
        for ring in drawn_rings(60, least=2, most=10, seed=906):
            web = slow_web(ring)
            for _ in range(3):
                knot = draw.randrange(web.knots)
                web = slow_turned(web, knot)
                self.judged(True, has_ring, web)
                ring = turned_ring(ring, knot)
                self.judged(True, is_ring_or_bar, web, ("ring", ring))
                self.judged(True, has_ring, slow_left_out(web, knot))

    def test_bars_stay(self):
        for web in BARRED:
            for knot in range(web.knots):
                self.judged(False, has_ring, slow_turned(web, knot))
        for ties in list(slow_kin(WHEEL))[::5]:
            self.judged(False, has_ring, Web(6, ties))


class Forms(Case):

    def test_by_all_rings(self):
        by_web = {}
        for many in (1, 2, 3, 4):
            for ring in all_rings(many):
                by_web.setdefault(slow_web(ring).ties + (many,), set()).add(slow_form(ring))
        for web in webs_up_to(4):
            self.same(self.told(forms_of, web), tuple(sorted(by_web[web.ties + (web.knots,)])))

    def test_five_knots(self):
        some = list(all_webs(5))[::40] + [Web(5, ()), full_web(5), star_web(5), ROUND, beside(PATH, Web(1, ()))]
        for web in some:
            self.same(self.told(forms_of, web), tuple(sorted({slow_form(ring) for ring in slow_rings(web)})))

    def test_unsplit_webs_have_one(self):
        """[9.4]; turning about and mirroring are in the form [0.18]."""
        kin = [Web(5, ties) for ties in slow_kin(ROUND)]
        self.assertEqual(len(kin), 132)
        for web in kin:
            self.assertTrue(is_unsplit(web))
            self.assertEqual(len(forms_of(web)), 1)
        for web in (round_web(6), turned(round_web(6), 3), round_web(7)):
            self.assertEqual(len({slow_form(ring) for ring in slow_rings(web)}), 1)
        self.assertGreater(len(forms_of(STAR)), 1)

    def test_edges(self):
        self.same(forms_of(Web(1, ())), ((0, 0),))
        for web in (Web(6, ()), full_web(6), WHEEL, Web(10, ())):
            self.refused(TooMany, forms_of, web, kept=("limit", 5))


class StarsAndTied(Case):

    def test_all_sizes(self):
        for many in range(1, 11):
            others = list(range(1, many))
            self.same(self.told(star_ring, many), tuple([0] + others + [0] + others[::-1]))
            self.same(self.told(tied_ring, many), tuple(list(range(many)) + list(range(many))))
            self.assertEqual(slow_web(star_ring(many)), star_web(many))
            self.assertEqual(slow_web(tied_ring(many)), full_web(many))
        self.same([star_ring(1), tied_ring(1), star_ring(2)], [(0, 0), (0, 0), (0, 1, 0, 1)])

    def test_no_such_number(self):
        for value in STRAYS + (0, 11, -1, 10 ** 60, True, (3,), "3"):
            if type(value) is not int or not 1 <= value <= 10:
                self.refused_number(InvalidNumber, star_ring, value, at=0)
                self.refused_number(InvalidNumber, tied_ring, value, at=0)


class Refusals(Case):

    def test_web(self):
        for value in NO_WEBS:
            for function in (ring_or_bar, has_ring, forms_of):
                self.refused(InvalidWeb, function, value)
            for paper in (("ring", (0, 0)), None, ("bar", (0,))):
                self.refused(InvalidWeb, is_ring_or_bar, value, paper)


class NotTrue(Case):
    """[9.5]"""

    def test_ties_of_a_web_with_a_ring(self):
        self.judged(True, has_ring, full_web(10))
        self.assertGreaterEqual(len(full_web(10).ties), 30)

    def test_all_lesser_webs_have_rings(self):
        for knot in range(6):
            for row in ((), (knot,), (knot, slow_near(WHEEL, knot)[0], knot)):
                self.judged(True, has_ring, left_out(turned_by(WHEEL, row), knot))
        self.judged(False, has_ring, WHEEL)

    def test_equally_many_ties(self):
        other = Web(6, full_web(6).ties[:10])
        self.assertEqual(len(other.ties), len(WHEEL.ties))
        self.judged(True, has_ring, other)
        self.judged(False, has_ring, WHEEL)


if __name__ == "__main__":
    unittest.main()
