"""Stage 11: lesser webs [11.1] to [11.6], and ranks that stay [0.13]."""

import random
import unittest
from itertools import product

from tests.helper import (
    PATH, ROUND, STAR, STRAYS, Case, all_webs, among, bent, drawn_web, drawn_webs, edge_webs, full_web, is_knot, lots,
    path_web, slow_behind, slow_cut_rank, slow_kin, slow_left_out, slow_near, webs_up_to)
from tests.test_cuts import NO_LOTS
from tests.test_marks import BARRED
from tests.test_rings import drawn_rings, slow_web
from tests.test_webs import NO_WEBS
from tiedanew.errors import InvalidLot, InvalidNumber, InvalidOperation, InvalidSteps, InvalidWeb, Refused
from tiedanew.lesser import steps as module
from tiedanew.lesser.steps import is_steps, lesser_web, staying, steps_ways, way_of, ways_webs, web_behind
from tiedanew.ring.answers import has_ring
from tiedanew.ring.rings import left_out_ring, turned_ring
from tiedanew.web.webs import Web, beside

WAY = PATH
TRIED = list(webs_up_to(4)) + drawn_webs(25, seed=1101) + edge_webs() + BARRED
ALL_STEPS = [(word, knot) for word in ("turn", "leave") for knot in range(4)]
NO_STEPS = tuple(value for value in STRAYS if value != ()) + (
    [], [("turn", 0)], (("turn", 0), ["turn", 1]), ("turn", 0), (("turn",),), (("turn", 0, 0),), (("turn", None),),
    (("turn", "0"),), (("turn", True),), (("leave", False),), (("turn", -1),), (("leave", -1),), (("turn", 4),),
    (("leave", 4),), (("Turn", 0),), (("leaf", 0),), (("swing", 0),), ((0, "turn"),), ((None, 0),), (("turn", (0,)),),
    (("leave", 3), ("turn", 3)), (("leave", 0), ("leave", 3)), (("leave", 0),) * 4, (("turn", 10 ** 60),),
    (("leave", 0), ("leave", 0), ("leave", 0), ("leave", 0), ("turn", 0)), (("turn", 0),) * 201, {0: ("turn", 0)},
    "turn", (("turn", 0), None), ("leave", 3), ((("turn", 0),),), (("turn", Web(1, ())),))


def drawn_steps(draw, many, size):
    """So many steps of a web of so many knots."""
    steps = []
    for _ in range(size):
        word = "leave" if many > 1 and draw.random() < 0.3 else "turn"
        steps.append((word, draw.randrange(many)))
        many -= word == "leave"
    return tuple(steps)


def slow_is_steps(many, steps):
    for word, knot in steps:
        if not 0 <= knot < many or (word == "leave" and many == 1):
            return False
        many -= word == "leave"
    return True


def slow_ways(web, knot):
    close = slow_near(web, knot)
    if not close:
        return ((("leave", knot),),) * 3
    return ((("leave", knot),), (("turn", knot), ("leave", knot)),
            (("turn", knot), ("turn", close[0]), ("turn", knot), ("leave", knot)))


class Examples(Case):

    def test_steps(self):
        self.judged(False, is_steps, WAY, (("leave", 3), ("turn", 3)))
        self.same(web_behind(WAY, (("turn", 1), ("leave", 1))).ties, ((0, 1), (1, 2)))
        self.same(staying(WAY, (("leave", 1), ("leave", 1))), (0, 3))

    def test_ways(self):
        self.same(steps_ways(WAY, 1)[2], (("turn", 1), ("turn", 0), ("turn", 1), ("leave", 1)))
        self.same([web.ties for web in ways_webs(WAY, 1)], [((1, 2),), ((0, 1), (1, 2)), ((0, 1), (1, 2))])
        self.same([web.ties for web in ways_webs(STAR, 0)], [(), ((0, 1), (0, 2), (1, 2)), ((0, 1), (0, 2))])

    def test_which_way(self):
        self.same([way_of(WAY, (0,), 1), way_of(WAY, (1, 0), 1), way_of(WAY, (0, 1), 1)], [0, 1, 2])
        self.same([lesser_web(STAR, (1, 2), (1, 0)).ties, lesser_web(STAR, (1, 2), (0, 1)).ties], [(), ((0, 1),)])

    def test_error_and_constant(self):
        self.refused(Refused, steps_ways, Web(1, ()), 0, kept=("reason", ("last",)))
        self.same(module.MOST_STEPS, 200)


class Steps(Case):

    def test_all_short_ones(self):
        for web in (Web(1, ()), Web(2, ((0, 1),)), Web(3, ()), PATH):
            for size in range(4):
                for steps in product(ALL_STEPS, repeat=size):
                    right = slow_is_steps(web.knots, steps)
                    self.judged(right, is_steps, web, steps)
                    if not right:
                        self.refused(InvalidSteps, web_behind, web, steps)
                        self.refused(InvalidSteps, staying, web, steps)

    def test_webs_behind(self):
        draw = random.Random(1102)
        for web in TRIED:
            for size in (0, 1, 3, 12):
                steps = drawn_steps(draw, web.knots, size)
                self.judged(True, is_steps, web, steps)
                behind, stay = self.told(web_behind, web, steps), self.told(staying, web, steps)
                self.assertEqual(behind, slow_behind(web, steps))
                names = list(range(web.knots))
                for word, knot in steps:
                    if word == "leave":
                        names.pop(knot)
                self.same(stay, tuple(names))
                self.assertEqual(behind.knots, len(stay))

    def test_200_steps_and_201(self):
        for web in (Web(1, ()), STAR, full_web(10)):
            for many in (199, 200, 201, 400):
                self.judged(many <= 200, is_steps, web, (("turn", 0),) * many)
            self.refused(InvalidSteps, web_behind, web, (("turn", 0),) * 201)
            self.refused(InvalidSteps, staying, web, (("turn", 0),) * 201)
            self.assertEqual(web_behind(web, (("turn", 0),) * 200), web)
        leave = (("leave", 9), ("leave", 8), ("leave", 7))
        self.assertEqual(web_behind(full_web(10), (("turn", 5),) * 197 + leave), slow_behind(
            full_web(10), (("turn", 5),) + leave))
        self.judged(False, is_steps, full_web(10), (("turn", 5),) * 198 + leave)

    def test_the_last_knot(self):
        self.judged(True, is_steps, Web(1, ()), (("turn", 0),))
        self.judged(False, is_steps, Web(1, ()), (("leave", 0),))
        for many in range(1, 11):
            web = full_web(many)
            self.judged(True, is_steps, web, (("leave", 0),) * (many - 1))
            self.judged(False, is_steps, web, (("leave", 0),) * many)
            self.judged(False, is_steps, web, (("leave", 0),) * many + (("turn", 0),))
            self.assertEqual(web_behind(web, (("leave", 0),) * (many - 1)), Web(1, ()))
            self.same(staying(web, (("leave", 0),) * (many - 1)), (many - 1,))

    def test_no_steps(self):
        for value in NO_STEPS:
            self.judged(False, is_steps, PATH, value)
        right = (("turn", 1), ("leave", 0), ("turn", 2))
        self.judged(True, is_steps, PATH, right)
        for value in bent(right):
            self.judged(False, is_steps, PATH, value)
        self.judged(True, is_steps, PATH, ())
        self.assertEqual(web_behind(PATH, ()), PATH)
        self.same(staying(PATH, ()), (0, 1, 2, 3))


class Ways(Case):

    def test_three_ways(self):
        for web in TRIED:
            for knot in range(web.knots):
                if web.knots == 1:
                    self.refused(Refused, steps_ways, web, knot, kept=("reason", ("last",)))
                    self.refused(Refused, ways_webs, web, knot, kept=("reason", ("last",)))
                    continue
                ways = self.told(steps_ways, web, knot)
                self.same(ways, slow_ways(web, knot))
                webs = self.told(ways_webs, web, knot)
                self.assertEqual(webs, tuple(slow_behind(web, steps) for steps in ways))
                self.assertIs(type(webs), tuple)
                for steps in ways:
                    self.judged(True, is_steps, web, steps)
                    self.same(staying(web, steps), tuple(v for v in range(web.knots) if v != knot))

    def test_a_knot_that_is_alone(self):
        for web, knot in ((Web(2, ()), 1), (beside(PATH, Web(1, ())), 4), (beside(Web(1, ()), ROUND), 0)):
            self.same(steps_ways(web, knot), ((("leave", knot),),) * 3)
            self.assertEqual(ways_webs(web, knot), (slow_left_out(web, knot),) * 3)

    def test_another_near_knot(self):
        """The way 2 by it leads to a kin web [11.2]."""
        for web in list(webs_up_to(4)) + list(all_webs(5))[::31]:
            for knot in range(web.knots):
                close = slow_near(web, knot)
                if len(close) > 1:
                    kin = slow_kin(ways_webs(web, knot)[2])
                    for other in close:
                        behind = slow_behind(web, (("turn", knot), ("turn", other), ("turn", knot), ("leave", knot)))
                        self.assertIn(behind.ties, kin)


class NoFourth(Case):
    """[11.3]"""

    def slow_way(self, web, row, knot):
        """Going back along the turns, the webs ahead of each being told by turning from the first one again."""
        way = 0
        for k in range(len(row) - 1, -1, -1):
            ahead = slow_behind(web, [("turn", v) for v in row[:k]])
            if row[k] == knot:
                way = {0: 1, 1: 0, 2: 2}[way]
            elif row[k] in slow_near(ahead, knot):
                way = {0: 0, 1: 2, 2: 1}[way]
        return way

    def test_by_going_back(self):
        draw = random.Random(1103)
        for web in TRIED:
            for size in (0, 1, 2, 3, 8, 20):
                row, knot = tuple(draw.randrange(web.knots) for _ in range(size)), draw.randrange(web.knots)
                self.same(self.told(way_of, web, row, knot), self.slow_way(web, row, knot))
        self.same(way_of(full_web(10), (3,) * 200, 3), 0)
        self.same(way_of(full_web(10), (3,) * 199, 3), 1)

    def test_short_rows(self):
        for web in (PATH, STAR, full_web(3), Web(3, ((0, 2),)), Web(2, ())):
            for size in range(4):
                for row in product(range(web.knots), repeat=size):
                    for knot in range(web.knots):
                        self.same(way_of(web, row, knot), self.slow_way(web, row, knot))

    def test_the_web_behind_is_kin_to_that_of_the_way(self):
        draw, ways = random.Random(1104), set()
        for web in [web for web in list(webs_up_to(4)) if web.knots > 1] + [drawn_web(draw, 5) for _ in range(30)]:
            for _ in range(4):
                row = tuple(draw.randrange(web.knots) for _ in range(draw.randint(0, 9)))
                knot = draw.randrange(web.knots)
                behind = slow_behind(web, [("turn", v) for v in row] + [("leave", knot)])
                way = way_of(web, row, knot)
                ways.add(way)
                self.assertIn(behind.ties, slow_kin(ways_webs(web, knot)[way]))
        self.assertEqual(ways, {0, 1, 2})

    def test_a_knot_alone(self):
        """The rule tells a way for it as well."""
        web = beside(Web(1, ()), PATH)
        self.same([way_of(web, row, 0) for row in ((), (0,), (0, 0), (0, 1), (1, 2), (0, 3, 2))], [0, 1, 0, 1, 0, 1])
        self.same([way_of(Web(1, ()), (0,) * many, 0) for many in (0, 1, 2, 3, 200)], [0, 1, 0, 1, 0])

    def test_each_lesser_web_is_kin_to_one_of_3_to_the_k(self):
        draw = random.Random(1105)
        for web in [STAR, PATH, full_web(4), ROUND, drawn_web(draw, 5), drawn_web(draw, 5), drawn_web(draw, 6)]:
            for _ in range(6):
                steps = drawn_steps(draw, web.knots, 9)
                lot = staying(web, steps)
                others = [v for v in range(web.knots) if v not in lot]
                behind = slow_behind(web, steps)
                kin = slow_kin(behind)
                self.assertTrue(any(lesser_web(web, lot, ways).ties in kin
                                    for ways in product(range(3), repeat=len(others))))


class LesserWebs(Case):

    def slow_lesser(self, web, lot, ways):
        names = list(range(web.knots))
        others = [v for v in reversed(names) if v not in lot]
        for knot, way in zip(others, ways):
            at = names.index(knot)
            web = slow_behind(web, slow_ways(web, at)[way])
            names.remove(knot)
        return web

    def test_all_ways(self):
        for web in (PATH, STAR, full_web(4), Web(4, ((0, 3), (1, 3))), ROUND, Web(5, ((0, 1), (1, 4), (2, 4)))):
            for lot in lots(web.knots, 1):
                for ways in product(range(3), repeat=web.knots - len(lot)):
                    self.assertEqual(self.told(lesser_web, web, lot, ways), self.slow_lesser(web, lot, ways))

    def test_great_webs(self):
        draw = random.Random(1106)
        for web in TRIED:
            lot = tuple(sorted(draw.sample(range(web.knots), draw.randint(1, web.knots))))
            ways = tuple(draw.randint(0, 2) for _ in range(web.knots - len(lot)))
            self.assertEqual(self.told(lesser_web, web, lot, ways), self.slow_lesser(web, lot, ways))
        self.assertEqual(lesser_web(PATH, (0, 1, 2, 3), ()), PATH)
        self.assertEqual(lesser_web(Web(1, ()), (0,), ()), Web(1, ()))
        self.assertEqual(lesser_web(full_web(10), (4,), (0,) * 9), Web(1, ()))


class WhatStays(Case):

    def test_ranks(self):
        """No lot of what stays has a greater one [11.4]; turns keep them all [0.13]."""
        draw = random.Random(1107)
        for web in drawn_webs(25, least=3, most=6, seed=1108):
            turns = tuple(("turn", draw.randrange(web.knots)) for _ in range(5))
            for steps in (drawn_steps(draw, web.knots, 6), turns):
                behind, stay = web_behind(web, steps), staying(web, steps)
                for lot in lots(behind.knots):
                    old = tuple(stay[v] for v in lot)
                    if len(stay) == web.knots:
                        self.assertEqual(slow_cut_rank(behind, lot), slow_cut_rank(web, old))
                    self.assertLessEqual(slow_cut_rank(behind, lot), slow_cut_rank(web, old))

    def test_one_knot_left(self):
        for web in drawn_webs(25, least=3, most=6, seed=1109):
            for knot in range(web.knots):
                for behind in ways_webs(web, knot):
                    for lot in lots(behind.knots):
                        old = tuple(v + (v >= knot) for v in lot)
                        for more in (old, tuple(sorted(old + (knot,)))):
                            self.assertIn(slow_cut_rank(web, more) - slow_cut_rank(behind, lot), (0, 1))

    def test_rings_stay_rings(self):
        draw = random.Random(1110)
        for ring in drawn_rings(60, least=2, most=10, seed=1111):
            web = slow_web(ring)
            steps = drawn_steps(draw, web.knots, 7)
            for word, knot in steps:
                ring = turned_ring(ring, knot) if word == "turn" else left_out_ring(ring, knot)
            self.assertEqual(slow_web(ring), web_behind(web, steps))
            self.judged(True, has_ring, web_behind(web, steps))


class Refusals(Case):

    def test_web(self):
        for value in NO_WEBS:
            self.refused(InvalidWeb, is_steps, value, ())
            self.refused(InvalidWeb, is_steps, value, None)
            for function in (web_behind, staying):
                self.refused(InvalidWeb, function, value, ())
                self.refused(InvalidWeb, function, value, None)
            for function in (steps_ways, ways_webs):
                self.refused(InvalidWeb, function, value, 0)
                self.refused(InvalidWeb, function, value, None)
            self.refused(InvalidWeb, way_of, value, (), 0)
            self.refused(InvalidWeb, way_of, value, None, None)
            self.refused(InvalidWeb, lesser_web, value, (0,), ())
            self.refused(InvalidWeb, lesser_web, value, None, None)

    def test_steps(self):
        for value in NO_STEPS:
            self.refused(InvalidSteps, web_behind, PATH, value)
            self.refused(InvalidSteps, staying, PATH, value)

    def test_knot(self):
        for value in STRAYS + (4, -1, True, (0,), 10 ** 60):
            if not is_knot(value, 4):
                self.refused_number(InvalidNumber, steps_ways, PATH, value, at=1)
                self.refused_number(InvalidNumber, ways_webs, PATH, value, at=1)
                self.refused_number(InvalidNumber, way_of, PATH, (0, 1), value, at=2)
                self.refused_number(InvalidNumber, way_of, PATH, (), value, at=2)
        for function in (steps_ways, ways_webs):
            self.refused_number(InvalidNumber, function, Web(1, ()), 1, at=1)
            self.refused(Refused, function, Web(1, ()), 0, kept=("reason", ("last",)))

    def test_row(self):
        wrong = tuple(value for value in STRAYS if value != ()) + (
            [0], (4,), (-1,), (0, True), (None,), "01", ((0,),), (0,) * 201, {0: 1}, (10 ** 60,), (0, "1"))
        for value in wrong:
            if not among(value, [(0, 0), (1, 0)]):
                self.refused(InvalidOperation, way_of, PATH, value, 0)
                self.refused(InvalidOperation, way_of, PATH, value, 9)

    def test_lot_and_ways(self):
        for value in NO_LOTS + ((),):
            self.refused(InvalidLot, lesser_web, PATH, value, (0, 0))
            self.refused(InvalidLot, lesser_web, PATH, value, None)
        wrong = STRAYS + (
            (0,), (0, 0, 0), (0, 3), (-1, 0), (0, True), (False, 1), [0, 1], "01", (0, None), ((0, 1),), (0, 10 ** 60))
        for value in wrong:
            if not among(value, [(0, 0), (1, 0)]):
                self.refused(InvalidOperation, lesser_web, PATH, (1, 3), value)
        self.refused(InvalidOperation, lesser_web, PATH, (0, 1, 2, 3), (0,))
        self.refused(InvalidOperation, lesser_web, Web(1, ()), (0,), (0,))


class NotTrue(Case):
    """[11.6]"""

    def test_unlike_webs(self):
        one, _, other = ways_webs(Web(3, ((0, 1), (1, 2))), 0)
        self.assertEqual(ways_webs(Web(2, ((0, 1),)), 0), (Web(1, ()),) * 3)
        self.assertEqual(len({web.ties for web in ways_webs(path_web(3), 0)}), 2)
        self.assertEqual((one.knots, other.knots), (2, 2))

    def test_a_tie_more(self):
        self.assertIn((0, 1), web_behind(path_web(3), (("turn", 1), ("leave", 1))).ties)
        self.assertNotIn((0, 2), path_web(3).ties)

    def test_kin_to_the_web_of_what_stays(self):
        self.assertNotIn(web_behind(path_web(3), (("turn", 1), ("leave", 1))).ties, slow_kin(Web(2, ())))

    def test_another_near_knot_leads_elsewhere(self):
        one, other = (slow_behind(STAR, (("turn", 0), ("turn", w), ("turn", 0), ("leave", 0))) for w in (1, 2))
        self.assertEqual(one, ways_webs(STAR, 0)[2])
        self.assertNotEqual(one, other)


if __name__ == "__main__":
    unittest.main()
