"""Stage 12: rings, or cores [12.1] to [12.5], which is [0.15]."""

import random
import unittest
from itertools import permutations

from tests.helper import (
    PATH, ROUND, STRAYS, WHEEL, Case, all_webs, among, bent, drawn_webs, edge_webs, full_web, in_one_piece, lots,
    pairs_of, round_web, slow_behind, slow_kin, slow_near, slow_turned, webs_up_to)
from tests.test_answers import slow_rings
from tests.test_marks import BARRED, PRISM
from tests.test_rings import FIVER, NO_RINGS, slow_web
from tests.test_steps import NO_STEPS, drawn_steps, slow_ways
from tests.test_webs import NO_WEBS
from tiedanew.errors import InvalidWeb, UnknownName
from tiedanew.lesser import cores
from tiedanew.lesser.cores import core, core_word, is_least, is_ring_or_core, least_word, ring_or_core
from tiedanew.ring.answers import has_ring
from tiedanew.split.splits import joined_at
from tiedanew.web.webs import Web, beside, lot_web, renamed, turned, turned_by

SIX = Web(7, ((0, 1), (0, 5), (0, 6), (1, 2), (2, 3), (2, 6), (3, 4), (4, 5), (4, 6)))
SEVEN = Web(8, tuple((0, v) for v in range(1, 8)) + ((1, 2), (1, 7), (2, 3), (3, 4), (4, 5), (5, 6), (6, 7)))
ALL = (("five", WHEEL), ("six", SIX), ("seven", SEVEN))
KIN = {word: slow_kin(web) for word, web in ALL}
BOTH = Web(8, (
    (0, 1), (0, 3), (0, 7), (1, 2), (1, 5), (1, 7), (2, 3), (2, 4), (3, 4), (3, 6), (4, 5), (4, 6), (4, 7), (5, 7)))
GREAT = drawn_webs(70, least=6, seed=1201) + edge_webs() + BARRED + [
    joined_at(WHEEL, ROUND, (0, 1, 3, 5, 7)), joined_at(SIX, PATH, (0, 1, 2, 4, 5, 7)), BOTH]


def drawn_order(draw, many):
    return tuple(draw.sample(range(many), many))


def hidden(draw, web):
    """The web behind turns, with other names, beside knots alone or leaves, and behind turns again."""
    many = web.knots
    web = renamed(turned_by(web, tuple(draw.randrange(many) for _ in range(20))), drawn_order(draw, many))
    while web.knots < 10 and draw.random() < 0.7:
        web = Web(web.knots + 1, tuple(sorted(web.ties + tuple(
            (v, web.knots) for v in range(web.knots) if draw.random() < 0.5))))
    return turned_by(web, tuple(draw.randrange(web.knots) for _ in range(20)))


class Examples(Case):

    def test_cores(self):
        self.assertEqual(core("five"), WHEEL)
        self.same([core("six").ties, core("seven").knots], [
            ((0, 1), (0, 5), (0, 6), (1, 2), (2, 3), (2, 6), (3, 4), (4, 5), (4, 6)), 8])

    def test_words(self):
        self.same([core_word(WHEEL), core_word(turned(WHEEL, 1)), least_word(turned(WHEEL, 1)), least_word(
            PRISM), is_least(beside(WHEEL, Web(1, ())))], ["five", None, "five", "five", False])

    def test_papers(self):
        self.same(ring_or_core(PRISM)[:2], ("core", "five"))
        self.judged(True, is_ring_or_core, WHEEL, ("core", "five", (), (0, 2, 3, 4, 5, 1)))
        self.judged(False, is_ring_or_core, WHEEL, ("core", "five", (("turn", 1),), (0, 1, 2, 3, 4, 5)))

    def test_error_and_constants(self):
        self.refused(UnknownName, core, "eight", kept=("wanted", "eight"))
        self.same([cores.CORES, cores.MOST_TOLD], [("five", "six", "seven"), 60])


class Cores(Case):

    def test_they_are_as_told(self):
        for word, web in ALL:
            self.assertEqual(self.told(core, word), web)

    def test_no_ring_but_behind_each_way(self):
        for _, web in ALL:
            self.assertIsNone(next(slow_rings(web), None))
            for knot in range(web.knots):
                for steps in slow_ways(web, knot):
                    self.assertIsNotNone(next(slow_rings(slow_behind(web, steps)), None))

    def test_words_up_to_names(self):
        draw = random.Random(1202)
        for order in list(permutations(range(6)))[::7]:
            self.same(core_word(renamed(WHEEL, order)), "five")
        for word, web in ALL[1:]:
            for _ in range(40):
                self.same(self.told(core_word, renamed(web, drawn_order(draw, web.knots))), word)

    def test_no_words(self):
        wheels = {renamed(WHEEL, order).ties for order in permutations(range(6))}
        self.assertEqual(len(wheels), 72)
        with_ten = [web for web in drawn_webs(300, least=6, most=6, seed=1203) if len(web.ties) == 10]
        for web in with_ten + [Web(6, ties) for ties in KIN["five"]]:
            self.same(core_word(web), "five" if web.ties in wheels else None)
        # As many ties at each knot, but other webs.
        degrees = [
            Web(8, tuple((0, v) for v in range(1, 8)) + ((1, 2), (1, 3), (2, 3), (4, 5), (4, 7), (5, 6), (6, 7))),
            Web(7, ((0, 1), (0, 5), (0, 6), (1, 2), (1, 6), (2, 3), (2, 6), (3, 4), (4, 5)))]
        for web in degrees + [beside(WHEEL, Web(1, ())), beside(SEVEN, Web(1, ())), round_web(6), full_web(7)] + list(
                webs_up_to(3)) + edge_webs()[:16] + [Web(6, ()), Web(7, ()), Web(8, ()), Web(9, ()), full_web(10)]:
            self.same(core_word(web), None)


class Least(Case):

    def test_kin_of_cores(self):
        """132, 532 and 3,156, the farthest 4, 7 and 9 turns away; they are least [12.3]."""
        for (word, web), many, far in zip(ALL, (132, 532, 3156), (4, 7, 9)):
            self.assertEqual((len(KIN[word]), max(map(len, KIN[word].values()))), (many, far))
            for ties in list(KIN[word])[::20 if word == "seven" else 1]:
                kin = Web(web.knots, ties)
                self.judged(True, is_least, kin)
                self.same(self.told(least_word, kin), word)

    def test_other_names(self):
        draw = random.Random(1204)
        for word, web in ALL:
            for _ in range(15):
                other = renamed(Web(web.knots, draw.choice(list(KIN[word]))), drawn_order(draw, web.knots))
                self.judged(True, is_least, other)
                self.same(least_word(other), word)

    def test_six_knots(self):
        """Exactly those kin to a core, up to names, have no ring, and are least."""
        wheels = {renamed(WHEEL, order).ties for order in permutations(range(6))}
        barred = set()
        while wheels:
            found = slow_kin(Web(6, wheels.pop()))
            barred.update(found)
            wheels -= set(found)
        pairs = pairs_of(6)
        for number in range(0, 2 ** 15, 23):
            web = Web(6, tuple(pair for k, pair in enumerate(pairs) if number >> k & 1))
            self.judged(web.ties in barred, is_least, web)
            self.judged(web.ties not in barred, has_ring, web)
            self.same(least_word(web), "five" if web.ties in barred else None)

    def test_by_definition(self):
        for web in GREAT:
            lesser = [slow_behind(web, steps) for knot in range(web.knots if web.knots > 1 else 0)
                      for steps in slow_ways(web, knot)]
            right = not has_ring(web) and all(has_ring(other) for other in lesser)
            self.judged(right, is_least, web)
            self.same(self.told(least_word, web), {6: "five", 7: "six", 8: "seven"}[web.knots] if right else None)

    def test_webs_that_are_not_least(self):
        for web in list(webs_up_to(4)) + list(all_webs(5))[::17] + [
                beside(web, Web(1, ())) for _, web in ALL] + [Web(1, ()), round_web(8), full_web(10), BOTH]:
            self.judged(False, is_least, web)
            self.same(least_word(web), None)


class EitherOr(Case):

    def asked(self, web):
        """Asks for one of both, and looks at it; the word, or that of the core."""
        paper = self.told(ring_or_core, web)
        self.judged(True, is_ring_or_core, web, paper)
        self.assertEqual(paper[0] == "ring", has_ring(web))
        if paper[0] == "ring":
            self.assertEqual(len(paper), 2)
            self.assertEqual(slow_web(paper[1]), web)
            return "ring"
        word, name, steps, order = paper
        self.assertEqual(word, "core")
        self.assertLessEqual(len(steps), 60)
        self.assertEqual(renamed(slow_behind(web, steps), order), dict(ALL)[name])
        return name

    def test_all_webs_to_five_knots(self):
        for web in list(webs_up_to(4)) + list(all_webs(5)):
            self.assertEqual(self.asked(web), "ring")

    def test_great_webs(self):
        words = [self.asked(web) for web in GREAT]
        self.assertGreater(min(words.count("ring"), len(words) - words.count("ring")), 20)

    def test_kin_of_cores(self):
        for word, web in ALL:
            for ties in list(KIN[word])[::max(1, len(KIN[word]) // 40)]:
                self.assertEqual(self.asked(Web(web.knots, ties)), word)

    def test_hidden_cores(self):
        draw = random.Random(1205)
        for word, web in ALL:
            for _ in range(15):
                self.assertNotEqual(self.asked(hidden(draw, web)), "ring")
            for many in range(1, 11 - web.knots):
                self.assertEqual(self.asked(turned_by(beside(Web(many, ()), web), (many, many + 1, many + 4))), word)

    def test_never_both(self):
        """Rings stay rings, so no steps lead to a core, whatever order is told."""
        draw = random.Random(1206)
        for web in [web for web in drawn_webs(120, least=7, seed=1207) if has_ring(web)]:
            for _ in range(3):
                steps = drawn_steps(draw, web.knots, 6)
                behind = slow_behind(web, steps)
                self.assertTrue(has_ring(behind))
                for word, goal in ALL:
                    if goal.knots == behind.knots:
                        for order in (tuple(range(goal.knots)), drawn_order(draw, goal.knots)):
                            self.judged(False, is_ring_or_core, web, ("core", word, steps, order))

    def test_several_cores(self):
        """A web in one piece can lead to several [12.4]."""
        self.assertTrue(in_one_piece([BOTH]))
        words = set()
        for knot in range(8):
            for steps in slow_ways(BOTH, knot):
                lesser = slow_behind(BOTH, steps)
                for further in [()] + [more for v in range(7) for more in slow_ways(lesser, v)]:
                    word, *told = ring_or_core(slow_behind(lesser, further))
                    if word == "core":
                        words.add(told[0])
                        paper = ("core", told[0], steps + further + told[1], told[2])
                        self.judged(True, is_ring_or_core, BOTH, paper)
        self.assertEqual(words, {"five", "six"})

    def test_all_orders(self):
        for web, steps in ((WHEEL, ()), (turned(WHEEL, 0), (("turn", 0),))):
            for order in permutations(range(6)):
                right = renamed(slow_behind(web, steps), order) == WHEEL
                self.judged(right, is_ring_or_core, web, ("core", "five", steps, order))
        self.assertEqual(renamed(WHEEL, (0, 5, 4, 3, 2, 1)), WHEEL)

    def test_60_told_and_200_taken(self):
        for many in (60, 61, 200, 201, 202):
            self.judged(many % 2 == 0 and many <= 200, is_ring_or_core, WHEEL, (
                "core", "five", (("turn", 3),) * many, (0, 1, 2, 3, 4, 5)))
        web = beside(WHEEL, Web(1, ()))
        for many in (198, 199, 200):
            steps = (("turn", 6),) * many + (("leave", 6),)
            self.judged(many <= 199, is_ring_or_core, web, ("core", "five", steps, (0, 1, 2, 3, 4, 5)))

    def test_wrong_papers(self):
        right = ring_or_core(PRISM)
        ring = ("ring", FIVER)
        for web, told in ((PRISM, right), (slow_web(FIVER), ring), (WHEEL, ("core", "five", (), (0, 1, 2, 3, 4, 5)))):
            self.judged(True, is_ring_or_core, web, told)
            wrong = STRAYS + tuple(bent(told)) + NO_RINGS + tuple(("ring", value) for value in NO_RINGS) + tuple(
                ("core", "five", value, (0, 1, 2, 3, 4, 5)) for value in NO_STEPS) + (
                ("core",), ("core", "five"), ("core", "five", ()), told[1:], told[::-1], told + told,
                list(told), (told,),
                ("core", "six", (), (0, 1, 2, 3, 4, 5)), ("core", "seven", (), (0, 1, 2, 3, 4, 5)),
                ("core", "five", (), ()), ("core", "five", (), (0, 0, 1, 2, 3, 4)),
                ("ring", "five", (), (0, 1, 2, 3, 4, 5)),
                ("core", "five", (), (0, 1, 2, 3, 4)), ("core", "five", (), [0, 1, 2, 3, 4, 5]), ("ring", ()),
                ("ring",), ("ring", ROUND),
                ("core", "five", (), (1, 0, 2, 3, 4, 5)), ("core", "five", (), (0, 1, 2, 3, 4, 5, 6)),
                ("core", "five", (), (0, True, 2, 3, 4, 5)), ("core", ("five",), (), (0, 1, 2, 3, 4, 5)),
                ("core", None, (), None), ("core", "five", None, (0, 1, 2, 3, 4, 5)), ("ring", (0, 1, 0, 1)))
            for value in wrong:
                if not among(value, [told]):
                    self.judged(False, is_ring_or_core, web, value)
        for web in (Web(1, ()), ROUND, full_web(10)):
            for word, goal in ALL:
                self.judged(False, is_ring_or_core, web, ("core", word, (), tuple(range(goal.knots))))


class Refusals(Case):

    def test_word(self):
        for value in STRAYS + ("eight", "Five", "five ", ("five",), ["six"], "", 5, None):
            self.refused(UnknownName, core, value, kept=("wanted", value))

    def test_web(self):
        for value in NO_WEBS:
            for function in (core_word, least_word, is_least, ring_or_core):
                self.refused(InvalidWeb, function, value)
            for paper in (("ring", (0, 0)), None, ("core", "five", (), (0, 1, 2, 3, 4, 5))):
                self.refused(InvalidWeb, is_ring_or_core, value, paper)


class NotTrue(Case):
    """[12.5]"""

    def test_rounds_in_a_web_without_a_ring(self):
        self.judged(False, has_ring, PRISM)
        for lot in lots(6, 5):
            part = lot_web(PRISM, lot)
            close = {len(slow_near(part, v)) for v in range(part.knots)}
            self.assertFalse(in_one_piece([part]) and close == {2})

    def test_just_one_core(self):
        papers = [ring_or_core(web)[1] for web in (WHEEL, SIX)]
        self.assertEqual(papers, ["five", "six"])

    def test_ties_of_kin(self):
        self.assertGreater(len({len(ties) for ties in KIN["five"]}), 1)
        self.same([len(WHEEL.ties), len(slow_turned(WHEEL, 1).ties)], [10, 9])

    def test_no_hub(self):
        self.assertEqual(max(len(slow_near(PRISM, v)) for v in range(6)), 3)
        self.judged(False, has_ring, PRISM)


if __name__ == "__main__":
    unittest.main()
