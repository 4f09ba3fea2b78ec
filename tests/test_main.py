"""The main statements [0.13] to [0.22], and the conventions [0.1] to [0.6], over the whole program."""

import importlib
import inspect
import random
import unittest
from itertools import product

from tests.helper import (
    DEEP, PATH, ROUND, STAR, STRAYS, WHEEL, Case, all_webs, drawn_web, drawn_webs, edge_webs, full_web, in_one_piece,
    is_knot, lots, path_web, round_web, slow_behind, slow_cut_rank, slow_kin, slow_turned, star_web, webs_up_to)
from tests.test_answers import slow_rings
from tests.test_interface import FUNCTIONS
from tests.test_lots import CHANGES, LINE, NO_FULL, slow_exchanged, slow_lot
from tests.test_marks import BARRED, slow_is_bar
from tests.test_nets import NO_NETS, TWO, drawn_nets, slow_tours
from tests.test_rings import FIVER, WRONG_RINGS, drawn_rings, slow_web
from tests.test_sums import drawn_kin, drawn_renamed
from tests.test_webs import NO_WEBS
from tiedanew.bench.bench import Bench
from tiedanew.errors import InvalidNumber, InvalidRing, InvalidString, InvalidText, InvalidWeb
from tiedanew.judge.claims import answered, opposite, takes
from tiedanew.kin.classes import choice_count, kin_count, self_count
from tiedanew.kin.sums import are_kin, is_kin_or_bar, kin_or_bar
from tiedanew.lesser.cores import core, is_ring_or_core, ring_or_core
from tiedanew.lesser.steps import lesser_web, web_behind
from tiedanew.lesser.twigs import is_order_or_five, order_or_five, web_of_order
from tiedanew.ring.answers import forms_of, has_ring, is_ring_or_bar, ring_or_bar
from tiedanew.ring.flips import flips_or_pair, rings_of
from tiedanew.ring.found import ring_by
from tiedanew.ring.marks import are_marks, marks_of, turned_marks
from tiedanew.ring.rings import least_form, turned_ring, web_of
from tiedanew.split.partings import good_splits, parts, put_together
from tiedanew.split.splits import is_unsplit
from tiedanew.string.lots import are_same, exchanged, form_of, lot_of, web_in
from tiedanew.string.told import is_tells_for, tells_for, told_at, web_told
from tiedanew.text.texts import net_text, read_net, read_ring, read_steps, read_strings, read_web, ring_text, steps_text
from tiedanew.text.texts import strings_text, web_text
from tiedanew.tour.nets import net_of, ring_of, tour_of, turned_tour
from tiedanew.tour.tours import all_tours, is_turns_to, tour_count, turns_to
from tiedanew.web.cuts import cut_ranks, unlike_cut
from tiedanew.web.webs import Web, beside, renamed, turned_by

WEBS = list(webs_up_to(4))[::2] + list(all_webs(5))[::53] + drawn_webs(30, seed=31) + edge_webs() + BARRED + [
    ROUND, round_web(7), beside(ROUND, STAR)]
RINGS = drawn_rings(30, seed=32) + [FIVER, (0, 0), (0, 1, 0, 1)]
SAMPLES = {
    "is_solved": (((1, 1),), (1,)), "is_pick_or_look": (((1, 1),), (1, 0)), "are_rows": (), "is_square": (PATH, (0, 1)),
    "is_split": (PATH,), "is_split_or_none": (PATH,), "are_parts": (), "is_ring": (), "are_marks": (PATH,),
    "is_marks_or_bar": (PATH,), "are_ring_marks": (PATH,), "is_marks_between": (
        Web(1, ()), ((0,),), ((0,),)), "is_ring_or_bar": (PATH,), "is_cut": (FIVER,), "is_flips_or_pair": (
        FIVER, FIVER), "is_steps": (PATH,), "is_ring_or_core": (PATH,), "is_order": (PATH,),
        "is_order_or_five": (PATH,),
    "is_member": (PATH, STAR), "is_good": (), "is_member_basis": (PATH, STAR), "is_kin_or_bar": (PATH, STAR),
    "is_held_or_free": (PATH, "ZZZZ"), "are_all_kin": (PATH,), "is_named_kin": (PATH, STAR), "is_full": (),
    "is_free_or_string": (LINE, "ZZZ"), "is_web_in": (LINE,), "is_web_told": (PATH, 1, "X"),
    "is_tells_for": (PATH, path_web(3), (0,)), "is_tour": (TWO,), "is_turns_to": (TWO, tour_of(TWO), tour_of(TWO)),
    "is_turns_or_pair": (FIVER, FIVER), "is_claim": (), "takes": (("ring", PATH),)}


def functions():
    """All functions of the interface, with the names of their arguments."""
    for module, told in FUNCTIONS.items():
        for line in told:
            function = getattr(importlib.import_module(module), line.partition("(")[0])
            yield function, list(inspect.signature(function).parameters)


class Conventions(Case):

    def test_no_webs(self):
        """[0.6]"""
        found = 0
        for function, names in functions():
            if names[0] == "web":
                found += 1
                for value in NO_WEBS:
                    self.refused(InvalidWeb, function, value, *[None] * (len(names) - 1))
        self.assertGreater(found, 60)

    def test_knots(self):
        for function, names in functions():
            if names[:2] == ["web", "knot"]:
                for value in STRAYS + (6, -1):
                    if not is_knot(value, 6):
                        arguments = (WHEEL, value) + (None,) * (len(names) - 2)
                        self.refused_number(InvalidNumber, function, *arguments, at=1)

    def test_no_rings(self):
        for function, names in functions():
            if names[0] == "ring":
                for value in WRONG_RINGS:
                    self.refused(InvalidRing, function, value, *[None] * (len(names) - 1))

    def test_no_lots_nets_and_texts(self):
        for function, names in functions():
            for name, wrong, error in (("full", NO_FULL, InvalidString), ("net", NO_NETS, InvalidWeb), (
                    "text", (None, 0, "\t", ["x"], b""), InvalidText)):
                if names[0] == name:
                    for value in wrong:
                        self.refused(error, function, value, *[None] * (len(names) - 1))

    def test_judges_answer_for_every_value(self):
        """[0.4]"""
        judges = {function.__name__: function for function, names in functions() if names[-1] in ("value", "paper")}
        self.assertEqual(set(judges), set(SAMPLES))
        values = STRAYS + (
            Bench(), TWO, [Bench()], (TWO, TWO), 10 ** 5000, (10 ** 5000,), ("turns", (10 ** 5000,)), -10 ** 5000, DEEP,
            ((10 ** 5000,),), {"a": {"b": [PATH]}}, ("ring", (0, 0, 10 ** 5000, 10 ** 5000)), "\u00e9" * 3, 1.5,
            object(),
            {1, 2}, frozenset({1}), b"XYZ", Web, lambda: 0, ("core", [], {}, None), ({},), ((), ()), (((),),), range(3))
        for name, judge in judges.items():
            for value in values:
                self.assertIn(judge(*SAMPLES[name], value), (True, False))
                self.assertIs(type(judge(*SAMPLES[name], value)), bool)

    def test_questions_answer_true_or_false(self):
        answers = [are_kin(PATH, STAR), has_ring(WHEEL), are_same(LINE, LINE), is_unsplit(ROUND), TWO.is_led]
        self.same(answers, [False, False, True, True, True])


class RanksStay(Case):

    def test_turns_keep_all(self):
        """[0.13]"""
        draw = random.Random(33)
        for web in WEBS:
            kin = drawn_kin(draw, web)
            self.assertEqual(cut_ranks(kin), cut_ranks(web))
            self.assertIsNone(unlike_cut(web, kin))
            for lot in draw.sample(lots(web.knots), min(4, 2 ** web.knots)):
                self.assertEqual(slow_cut_rank(kin, lot), slow_cut_rank(web, lot))


class RingsBarsAndCores(Case):

    def test_either_a_ring_or_a_bar_or_a_core(self):
        """[0.14], [0.15]"""
        words = []
        for web in WEBS:
            word, told = ring_or_bar(web)
            words.append(word)
            self.judged(True, is_ring_or_bar, web, (word, told))
            other = ring_or_core(web)
            self.judged(True, is_ring_or_core, web, other)
            self.assertEqual(other[0] == "ring", word == "ring")
            if word == "ring":
                self.assertEqual(slow_web(told), web)
                self.judged(True, are_marks, web, marks_of(told))
            else:
                self.assertTrue(slow_is_bar(web, told))
                self.assertEqual(renamed(slow_behind(web, other[2]), other[3]), core(other[1]))
        self.assertGreater(min(words.count("ring"), words.count("bar")), 10)

    def test_small_webs_by_all_rings(self):
        for web in list(all_webs(4))[::3] + [WHEEL]:
            self.assertEqual(has_ring(web), next(slow_rings(web), None) is not None)

    def test_rings_and_turns_go_along(self):
        draw = random.Random(34)
        for ring in RINGS:
            web, marks, first = web_of(ring), marks_of(ring), ring
            for _ in range(6):
                name = draw.randrange(len(ring) // 2)
                web, marks, ring = slow_turned(web, name), turned_marks(web, marks, name), turned_ring(ring, name)
                self.assertEqual(slow_web(ring), web)
                self.judged(True, are_marks, web, marks)
            self.judged(True, has_ring, web)
            self.judged(True, are_kin, web_of(first), web)


class KinWebs(Case):

    def test_either_turns_or_a_bar(self):
        """[0.16]"""
        draw, words = random.Random(35), set()
        for web in WEBS:
            for other in (drawn_kin(draw, web), drawn_renamed(draw, web), drawn_web(draw, web.knots)):
                paper = kin_or_bar(web, other)
                words.add(paper[0])
                self.judged(True, is_kin_or_bar, web, other, paper)
                if paper[0] == "turns":
                    self.assertEqual(turned_by(web, paper[1]), other)
                    self.assertEqual(cut_ranks(web), cut_ranks(other))
                    self.assertEqual((choice_count(web), self_count(web)), (choice_count(other), self_count(other)))
                    self.assertEqual(has_ring(web), has_ring(other))
                if web.knots <= 5:
                    self.assertEqual(paper[0] == "turns", other.ties in slow_kin(web))
        self.assertEqual(words, {"turns", "cut", "none"})

    def test_how_many(self):
        """[0.17]"""
        for web in [web for web in WEBS if web.knots <= 6] + [round_web(7)]:
            self.same(kin_count(web), len(slow_kin(web)))
            self.same(choice_count(web), self_count(web) * kin_count(web))


class PartsAndTwigs(Case):

    def test_in_one_way(self):
        """[0.18]"""
        draw = random.Random(36)
        for web in in_one_piece(WEBS):
            told = parts(web)
            self.assertEqual(put_together(told), web)
            kin = drawn_kin(draw, web)
            self.assertEqual(good_splits(kin), good_splits(web))
            self.assertEqual([part[1] for part in parts(kin)], [part[1] for part in told])

    def test_one_ring_of_an_unsplit_web(self):
        found = [web for web in all_webs(5) if is_unsplit(web)]
        self.assertGreater(len(found), 100)
        for web in found:
            self.assertEqual(len(forms_of(web)), 1)
            self.assertEqual(rings_of(web), forms_of(web))
            ring = ring_or_bar(web)[1]
            self.assertEqual(least_form(ring), forms_of(web)[0])
            self.assertEqual(ring_by(web, marks_of(ring))[0], "ring")

    def test_twigs_or_a_round(self):
        """[0.19]"""
        words = set()
        for web in WEBS:
            word, told = order_or_five(web)
            words.add(word)
            self.judged(True, is_order_or_five, web, (word, told))
            if word == "order":
                self.assertEqual(web_of_order(told), web)
                # All splits and twins: a web with an order has no unsplit part.
                if len(in_one_piece([web])):
                    self.assertNotIn("unsplit", [part[0] for part in parts(web)])
            else:
                behind = web_behind(web, told)
                self.assertEqual((behind.knots, {sum(v in tie for tie in behind.ties) for v in range(5)}), (5, {2}))
        self.assertEqual(words, {"order", "five"})


class Letters(Case):

    def test_kin_exactly_if_exchanges_lead(self):
        """[0.20]"""
        for one in list(all_webs(3)) + [Web(2, ()), path_web(2)]:
            led = {form_of(exchanged(lot_of(one), changes)) for changes in product(CHANGES, repeat=one.knots)}
            for other in all_webs(one.knots):
                self.assertEqual(form_of(lot_of(other)) in led, are_kin(one, other))

    def test_a_letter_leaves_a_lesser_web(self):
        draw = random.Random(37)
        for web in [web for web in WEBS if web.knots > 1]:
            knot = draw.randrange(web.knots)
            for letter in "XYZ":
                changes, left = web_told(web, knot, letter)
                self.judged(True, are_same, exchanged(told_at(lot_of(web), knot, letter), changes), lot_of(left))
                self.judged(True, are_kin, web_in(told_at(lot_of(web), knot, letter))[1], left)
                beyond = tuple(v for v in range(web.knots) if v != knot)
                self.assertTrue(any(are_kin(left, lesser_web(web, beyond, (way,))) for way in range(3)))
                tells = tells_for(web, left, (knot,))
                self.judged(True, is_tells_for, web, left, (knot,), tells)

    def test_webs_in_lots(self):
        draw = random.Random(38)
        for web in WEBS:
            changes = tuple(draw.choice(CHANGES) for _ in range(web.knots))
            full = slow_exchanged(slow_lot(web), changes)
            self.judged(True, are_kin, web_in(full)[1], web)


class Tours(Case):

    def test_turned_rings_lead_to_all(self):
        """[0.21]"""
        draw = random.Random(39)
        for net in drawn_nets(25, seed=40) + [net_of(ring) for ring in RINGS]:
            tour = tour_of(net)
            other, ring = tour, ring_of(net, tour)
            for _ in range(8):
                knot = draw.randrange(net.knots)
                other, ring = turned_tour(net, other, knot), turned_ring(ring, knot)
                self.assertEqual(least_form(ring), least_form(ring_of(net, other)))
            self.judged(True, is_turns_to, net, tour, other, turns_to(net, tour, other))
            self.judged(True, are_kin, web_of(ring_of(net, tour)), web_of(ring_of(net, other)))
            self.same(tour_count(net), choice_count(web_of(ring_of(net, other))))

    def test_all_of_small_nets(self):
        for net in drawn_nets(15, most=4, seed=41):
            self.same(all_tours(net), tuple(slow_tours(net)))
            self.same(len(all_tours(net)), choice_count(web_of(ring_of(net, tour_of(net)))))


class OneJudge(Case):

    def test_claims_and_their_makers(self):
        draw = random.Random(42)
        for web in WEBS:
            other = drawn_renamed(draw, web)
            for claim, right in ((("ring", web), has_ring(web)), (("order", web), order_or_five(web)[0] == "order"), (
                    ("kin", web, other), are_kin(web, other))):
                told, paper = answered(claim)
                self.assertEqual(told == claim, right)
                self.judged(True, takes, told, paper)
                self.judged(False, takes, opposite(told), paper)

    def test_a_bench_and_claims(self):
        draw = random.Random(43)
        for web in WEBS[::3]:
            bench = Bench()
            bench.put("one", web)
            bench.put("other", drawn_renamed(draw, web))
            for _ in range(4):
                paper = bench.ask("one", "other")
                claim = ("kin", bench.web_of("one"), bench.web_of("other"))
                if paper[0] == "turns":
                    self.judged(True, takes, claim, paper[1])
                else:
                    self.judged(True, takes, opposite(claim), paper)
                bench.turn("other", draw.randrange(web.knots))

    def test_texts_of_what_is_told(self):
        for web in WEBS:
            self.assertEqual(read_web(web_text(web)), web)
            self.same(read_strings(strings_text(lot_of(web))), lot_of(web))
            paper = ring_or_core(web)
            if paper[0] == "ring":
                self.same(read_ring(ring_text(paper[1])), paper[1])
                self.assertEqual(read_net(net_text(net_of(paper[1]))), net_of(paper[1]))
            else:
                self.same(read_steps(steps_text(paper[2])), paper[2])


class NotTrue(Case):
    """[0.22]"""

    def test_equally_many_ties(self):
        self.judged(True, are_kin, STAR, full_web(4))
        self.assertNotEqual(len(STAR.ties), len(full_web(4).ties))

    def test_alike_but_for_names(self):
        self.judged(False, are_kin, PATH, renamed(PATH, (0, 2, 1, 3)))

    def test_six_knots(self):
        self.judged(False, has_ring, WHEEL)
        self.judged(True, has_ring, star_web(6))

    def test_unlike_rings(self):
        self.assertGreater(len(forms_of(Web(3, ()))), 1)
        one, other = forms_of(Web(3, ()))[:2]
        self.same(flips_or_pair(one, other)[0], "flips")


if __name__ == "__main__":
    unittest.main()
