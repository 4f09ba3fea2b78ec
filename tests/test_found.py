"""Stage 8: rings out of marks [8.1] to [8.6]."""

import random
import unittest
from itertools import product

from tests.helper import (
    PATH, ROUND, STAR, STRAYS, WHEEL, Case, all_webs, among, bent, drawn_webs, edge_webs, full_web, in_one_piece,
    in_pieces, joined, lots, path_web, round_web, star_web, webs_up_to)
from tests.test_marks import BARRED, EDGE, NO_MARKS, all_marks, drawn_marks, slow_are_right, slow_sums
from tests.test_rings import FIVER, about, all_rings, drawn_rings, slow_places, slow_web
from tests.test_webs import NO_WEBS
from tiedanew.errors import InvalidMarks, InvalidWeb, Refused, TooMany
from tiedanew.ring import found
from tiedanew.ring.found import are_ring_marks, is_marks_between, marks_between, ring_by, ring_marks, walk_of
from tiedanew.ring.marks import exchanged_marks, free_bits, marks_of, marks_or_bar, opposite_marks
from tiedanew.ring.rings import least_form
from tiedanew.split.splits import is_unsplit
from tiedanew.web.webs import Web, beside, renamed, turned, turned_by

WRONG = ((0, 0, 0, 0), (1, 0, 0, 1), (1, 1, 0, 0), (1, 0, 1, 0))
PIECES = [Web(2, ()), Web(10, ()), beside(ROUND, STAR), beside(Web(1, ()), PATH), beside(WHEEL, Web(1, ())), Web(
    6, ((0, 1), (2, 3), (4, 5)))]
SMALL = in_one_piece(webs_up_to(4))
FIVES = in_one_piece(all_webs(5))
GREAT = in_one_piece(drawn_webs(40, seed=801) + edge_webs()) + [
    round_web(6), turned(round_web(7), 2), turned_by(round_web(10), (3, 4, 8)), WHEEL]
UNSPLIT = [ROUND, turned(ROUND, 2), round_web(6), turned_by(round_web(6), (0, 1, 4)), renamed(
    round_web(7), (3, 0, 5, 1, 6, 2, 4))]


def slow_walk(web):
    walk = [0]
    while len(walk) < web.knots:
        walk.append(min(v for v in range(web.knots) if v not in walk and any(joined(web, v, w) for w in walk)))
    return tuple(walk)


def sides_of(ends, chord):
    """The places and gaps of the side 1 of a chord, going on from its first end to its last one.

    Ends are pairs (chord, "first" or "last"); a gap is told by the place ahead of it.
    """
    at = ends.index((chord, "first"))
    places, gaps = set(), {at}
    while ends[(at + 1) % len(ends)] != (chord, "last"):
        at = (at + 1) % len(ends)
        places.add(at)
        gaps.add(at)
    return places, gaps


def slow_ring_by(web, marks):
    """The ring grown along the walk, by looking at all gaps, and all places, one by one."""
    walk = slow_walk(web)
    ends = [(0, "first"), (0, "last")]
    for step, w in enumerate(walk):
        if step == 0:
            continue
        ahead = walk[:step]
        wanted = {"first": [marks[v][w] for v in ahead],
                  "last": [marks[v][w] ^ joined(web, v, w) for v in ahead]}
        gaps = {}
        for which, bits in wanted.items():
            right = [gap for gap in range(len(ends))
                     if [int(gap in sides_of(ends, v)[1]) for v in ahead] == bits]
            assert len(right) <= 1
            if not right:
                return ("gap", w)
            gaps[which] = right[0]
        grown = []
        for gap, end in enumerate(ends):
            grown.append(end)
            grown += [(w, which) for which in ("first", "last") if gaps[which] == gap]
        ends = grown
        places = sides_of(ends, w)[0]
        wrong = [v for v in sorted(ahead) if int(ends.index((v, "first")) in places) != marks[w][v]]
        if wrong:
            return ("back", w, wrong[0])
    return ("ring", tuple(v for v, _ in ends))


def marks_by_ends(ring, firsts):
    """The marks of a ring where firsts[v] tells which one of both places of v is that of its first end."""
    many = len(ring) // 2
    rows = []
    for v in range(many):
        at = firsts[v]
        row = [0] * many
        while True:
            at = (at + 1) % len(ring)
            if ring[at] == v:
                break
            row[ring[at]] |= at == firsts[ring[at]]
        rows.append(tuple(int(bit) for bit in row))
    return tuple(rows)


def slow_ring_marks(ring):
    """All marks of the ring, first ends being told as one likes."""
    places = [slow_places(ring, v) for v in range(len(ring) // 2)]
    return {marks_by_ends(ring, firsts) for firsts in product(*places)}


def right_marks(web):
    """All right marks of a web, of one of them and what can be added to it."""
    keys = [(v, w) for v in range(web.knots) for w in range(web.knots) if v != w]
    heads = {}
    for members, _ in slow_sums(web):
        row = set(members)
        for head in sorted(heads):
            if head in row:
                row ^= heads[head]
        if row:
            head = min(row)
            for other in heads:
                if head in heads[other]:
                    heads[other] = heads[other] ^ row
            heads[head] = row
    free = [key for key in keys if key not in heads]
    word, first = marks_or_bar(web)
    assert word == "marks"
    for chosen in product((0, 1), repeat=len(free)):
        ones = {key for key, bit in zip(free, chosen) if bit}
        ones |= {head for head, row in heads.items() if len(ones & row) % 2}
        yield tuple(tuple(first[v][w] ^ ((v, w) in ones) for w in range(web.knots)) for v in range(web.knots))


def tells_marks(web, ring, marks):
    """Whether the ring, begun with the told first end of 0, has this web, and these marks for some first ends."""
    if slow_web(ring) != web or ring[0] != 0:
        return False
    places = [slow_places(ring, v) for v in range(web.knots)]
    firsts = [0]
    for v in range(1, web.knots):
        # Where v crosses 0, the bit of 0 tells which end is the first one, else the bit of v does.
        inside = [at for at in places[v] if at < places[0][1]]
        if len(inside) == 1:
            firsts.append(next(at for at in places[v] if (at in inside) == marks[0][v]))
        else:
            low, high = places[v]
            between = low < 0 < high
            firsts.append(low if between == marks[v][0] else high)
    return marks_by_ends(ring, firsts) == marks


class Examples(Case):

    def test_walks_and_rings(self):
        self.same([walk_of(slow_web(FIVER)), walk_of(Web(4, ((0, 2), (1, 3), (2, 3))))], [
            (0, 1, 2, 3, 4), (0, 2, 3, 1)])
        self.same(ring_by(slow_web(FIVER), marks_of(FIVER)), ("ring", FIVER))

    def test_marks(self):
        self.assertTrue(slow_are_right(STAR, WRONG))
        self.same([ring_by(STAR, WRONG), len(ring_marks(STAR)), len(ring_marks(slow_web(FIVER)))], [("gap", 3), 48, 64])

    def test_between(self):
        self.same(ring_by(EDGE, ((0, 1), (1, 0))), ("back", 1, 0))
        web, marks = slow_web(FIVER), marks_of(FIVER)
        self.same(marks_between(web, marks, opposite_marks(marks)), ((), 1))
        self.same(marks_between(STAR, WRONG, marks_of((0, 1, 2, 3, 0, 3, 2, 1))), None)

    def test_error(self):
        self.refused(Refused, walk_of, Web(2, ()), kept=("reason", ("pieces",)))

    def test_constant(self):
        self.same(found.MOST_LISTED, 5)


class Walks(Case):

    def test_by_definition(self):
        for web in SMALL + FIVES[::5] + GREAT:
            walk = self.told(walk_of, web)
            self.same(walk, slow_walk(web))
            self.assertEqual(sorted(walk), list(range(web.knots)))
        self.same([walk_of(Web(1, ())), walk_of(full_web(10)), walk_of(path_web(10))], [
            (0,), tuple(range(10)), tuple(range(10))])
        self.same(walk_of(renamed(path_web(5), (2, 4, 0, 3, 1))), (0, 3, 1, 4, 2))


class Gaps(Case):

    def test_all_marks_of_small_webs(self):
        words = set()
        for web in in_one_piece(webs_up_to(3)):
            for marks in all_marks(web.knots):
                told = self.told(ring_by, web, marks)
                self.same(told, slow_ring_by(web, marks))
                words.add(told[0])
        self.assertEqual(words, {"ring", "back"})
        for web in SMALL[6::3]:
            for marks in list(all_marks(web.knots))[::7]:
                self.same(ring_by(web, marks), slow_ring_by(web, marks))

    def test_right_marks(self):
        words = []
        for web in SMALL + FIVES[::20] + [STAR, star_web(5)]:
            for marks in list(right_marks(web))[:64]:
                told = self.told(ring_by, web, marks)
                self.same(told, slow_ring_by(web, marks))
                words.append(told[0])
        self.assertEqual(set(words), {"ring", "gap"})

    def test_great_webs(self):
        draw = random.Random(802)
        words = []
        for web in GREAT:
            some = [drawn_marks(draw, web.knots) for _ in range(3)]
            word, told = marks_or_bar(web)
            if word == "marks":
                some += [told, opposite_marks(told)]
            for marks in some:
                told = self.told(ring_by, web, marks)
                self.same(told, slow_ring_by(web, marks))
                words.append(told[0])
        self.assertEqual(set(words), {"ring", "gap", "back"})

    def test_marks_with_one_bit_wrong(self):
        """What goes wrong at one bit is told at the first knot that fails."""
        for ring in [ring for ring in drawn_rings(60, least=4, most=10, seed=803) if in_one_piece([slow_web(ring)])]:
            web, marks = slow_web(ring), marks_of(ring)
            for v in range(web.knots):
                for w in range(web.knots):
                    if v != w:
                        row = marks[v][:w] + (1 - marks[v][w],) + marks[v][w + 1:]
                        bent_marks = marks[:v] + (row,) + marks[v + 1:]
                        self.same(ring_by(web, bent_marks), slow_ring_by(web, bent_marks))

    def test_one_knot(self):
        self.same(ring_by(Web(1, ()), ((0,),)), ("ring", (0, 0)))


class EitherOr(Case):

    def test_a_ring_comes_out_exactly_for_marks_of_rings(self):
        by_web = {}
        for many in (1, 2, 3, 4):
            for ring in all_rings(many):
                by_web.setdefault(slow_web(ring).ties + (many,), set()).update(slow_ring_marks(ring))
        for web in SMALL:
            right = by_web[web.ties + (web.knots,)]
            for marks in all_marks(web.knots):
                self.judged(marks in right, are_ring_marks, web, marks)
            for marks in list(all_marks(web.knots))[::13]:
                self.assertEqual(ring_by(web, marks)[0] == "ring", marks in right)
            self.same(self.told(ring_marks, web), tuple(sorted(right)))

    def test_the_ring_has_the_web_and_the_marks(self):
        draw = random.Random(804)
        for ring in drawn_rings(150, least=2, most=10, seed=805) + [FIVER]:
            web = slow_web(ring)
            if not in_one_piece([web]):
                continue
            lot = tuple(v for v in range(web.knots) if draw.random() < 0.5)
            marks = exchanged_marks(web, marks_of(ring), lot)
            word, told = self.told(ring_by, web, marks)
            self.assertEqual(word, "ring")
            self.assertTrue(tells_marks(web, told, marks))
            firsts = [slow_places(ring, v)[v in lot] for v in range(web.knots)]
            self.assertEqual(marks_by_ends(ring, firsts), marks)
            # At most one ring begins so: this one, turned about to the first end of 0.
            self.same(told, about(ring)[firsts[0]])
            self.judged(True, are_ring_marks, web, marks)
            self.judged(True, are_ring_marks, web, opposite_marks(marks))

    def test_rings_that_come_out_of_right_marks(self):
        count = 0
        for web in SMALL + FIVES[::9]:
            for marks in list(right_marks(web))[:40]:
                told = ring_by(web, marks)
                self.judged(told[0] == "ring", are_ring_marks, web, marks)
                if told[0] == "ring":
                    count += 1
                    self.assertTrue(tells_marks(web, told[1], marks))
        self.assertGreater(count, 500)

    def test_all_marks_of_five_knots(self):
        for web in FIVES[::25] + [ROUND, star_web(5), full_web(5), path_web(5)]:
            right = [marks for marks in right_marks(web) if slow_ring_by(web, marks)[0] == "ring"]
            self.same(self.told(ring_marks, web), tuple(sorted(right)))

    def test_wrong_marks_are_no_ring_marks(self):
        for web in (Web(1, ()), EDGE, STAR, ROUND, full_web(10), WHEEL):
            for value in NO_MARKS + STRAYS:
                self.judged(False, are_ring_marks, web, value)
        for value in tuple(bent(marks_of(FIVER))) + (marks_of(FIVER)[1:], marks_of(FIVER) + ((0,) * 5,)):
            self.judged(False, are_ring_marks, slow_web(FIVER), value)
        for web in BARRED[:4] + BARRED[6:]:
            for marks in (((0,) * web.knots,) * web.knots, drawn_marks(random.Random(806), web.knots)):
                self.judged(False, are_ring_marks, web, marks)
        self.judged(True, are_ring_marks, Web(1, ()), ((0,),))


class Unsplit(Case):

    def test_each_right_marks_are_of_a_ring(self):
        """Just 2 ** (n + 1), and they come of one another [8.4], [0.18]."""
        for web in UNSPLIT:
            self.assertTrue(is_unsplit(web))
            told = list(right_marks(web))
            self.assertEqual(len(set(told)), 2 ** (web.knots + 1))
            self.same(free_bits(web), web.knots + 1)
            forms = set()
            for marks in told:
                self.judged(True, are_ring_marks, web, marks)
                word, ring = ring_by(web, marks)
                self.assertEqual((word, slow_web(ring)), ("ring", web))
                forms.add(least_form(ring))
                found_pair = marks_between(web, told[0], marks)
                self.assertIsNotNone(found_pair)
                self.judged(True, is_marks_between, web, told[0], marks, found_pair)
            self.assertEqual(len(forms), 1)

    def test_five_knots(self):
        for web in [web for web in FIVES if is_unsplit(web)][::11]:
            self.same(ring_marks(web), tuple(sorted(right_marks(web))))
            self.assertEqual(len(ring_marks(web)), 64)

    def test_great_ones(self):
        draw, count = random.Random(807), 0
        webs = [slow_web(ring) for ring in drawn_rings(500, least=7, most=10, seed=808)] + [round_web(10)] + [
            turned_by(round_web(many), (0, 3, 4, 1, many - 1)) for many in (7, 8, 9, 10)]
        for web in webs:
            if is_unsplit(web):
                count += 1
                self.same(free_bits(web), web.knots + 1)
                first, forms = marks_or_bar(web)[1], set()
                for _ in range(4):
                    lot = tuple(v for v in range(web.knots) if draw.random() < 0.5)
                    marks = exchanged_marks(web, first, lot)
                    for more in (marks, opposite_marks(marks)):
                        word, ring = ring_by(web, more)
                        self.assertEqual((word, slow_web(ring)), ("ring", web))
                        forms.add(least_form(ring))
                self.assertEqual(len(forms), 1)
        self.assertGreater(count, 5)


class Between(Case):

    def slow_exchanged(self, web, marks, lot):
        rows = [list(row) for row in marks]
        for v in lot:
            for w in range(web.knots):
                if v != w:
                    rows[v][w] ^= 1
                    rows[w][v] ^= joined(web, v, w)
        return tuple(tuple(row) for row in rows)

    def slow_pairs(self, web, one, other):
        """All right pairs, by trying all lots and both bits."""
        turned_ones = tuple(tuple(1 - bit if v != w else 0 for w, bit in enumerate(row)) for v, row in enumerate(one))
        return [(lot, bit) for bit, marks in ((0, one), (1, turned_ones)) for lot in lots(web.knots)
                if self.slow_exchanged(web, marks, lot) == other]

    def test_small_webs(self):
        nones = pairs = 0
        for web in SMALL + [STAR]:
            told = list(right_marks(web))
            for one in told[:2]:
                for other in told[::5] + told[:4]:
                    right = self.slow_pairs(web, one, other)
                    found_pair = self.told(marks_between, web, one, other)
                    self.assertTrue(among(found_pair, right or [None]))
                    nones += found_pair is None
                    pairs += found_pair is not None
                    self.judged(not right, is_marks_between, web, one, other, None)
                    for lot in lots(web.knots):
                        for bit in (0, 1):
                            self.judged((lot, bit) in right, is_marks_between, web, one, other, (lot, bit))
        self.assertGreater(min(nones, pairs), 100)

    def test_one_knot(self):
        marks = ((0,),)
        right = [(lot, bit) for lot in ((), (0,)) for bit in (0, 1)]
        self.assertTrue(among(marks_between(Web(1, ()), marks, marks), right))
        for lot in ((), (0,)):
            for bit in (0, 1):
                self.judged(True, is_marks_between, Web(1, ()), marks, marks, (lot, bit))
        self.judged(False, is_marks_between, Web(1, ()), marks, marks, None)
        self.judged(False, is_marks_between, Web(1, ()), marks, marks, ((1,), 0))

    def test_great_webs(self):
        draw = random.Random(809)
        for web in GREAT:
            word, one = marks_or_bar(web)
            if word == "bar":
                continue
            for _ in range(4):
                lot = tuple(v for v in range(web.knots) if draw.random() < 0.5)
                bit = draw.randint(0, 1)
                other = self.slow_exchanged(web, opposite_marks(one) if bit else one, lot)
                found_pair = self.told(marks_between, web, one, other)
                self.assertIsNotNone(found_pair)
                behind = self.slow_exchanged(web, opposite_marks(one) if found_pair[1] else one, found_pair[0])
                self.same(behind, other)
                self.judged(True, is_marks_between, web, one, other, found_pair)
                self.judged(True, is_marks_between, web, one, other, (lot, bit))
                self.judged(False, is_marks_between, web, one, other, None)
                if web.knots > 2:
                    less = tuple(sorted(set(lot) ^ {draw.randrange(web.knots)}))
                    behind = self.slow_exchanged(web, opposite_marks(one) if bit else one, less)
                    self.judged(behind == other, is_marks_between, web, one, other, (less, bit))

    def test_wrong_values(self):
        web, one = slow_web(FIVER), marks_of(FIVER)
        other = exchanged_marks(web, opposite_marks(one), (1, 3))
        right = self.slow_pairs(web, one, other)
        self.assertIn(((1, 3), 1), right)
        wrong = STRAYS + tuple(bent(((1, 3), 1))) + (
            ((3, 1), 1), ((1, 1, 3), 1), ((1, 3),), (1, (1, 3)), ((1, 3), 1, 0), [(1, 3), 1], ((1, 3), 3), ((1, 3), -1),
            ((1, 3), 2), ((1, 3), True), ((True, 3), 1), ((1, 3, 5), 1), ((-4, 3), 1), ((1, 3), 0))
        for value in wrong:
            if not among(value, right):
                self.judged(False, is_marks_between, web, one, other, value)
        for value in STRAYS + tuple(bent(((), 0))):
            if value is not None:
                self.judged(False, is_marks_between, STAR, WRONG, marks_of((0, 1, 2, 3, 0, 3, 2, 1)), value)
        self.judged(True, is_marks_between, STAR, WRONG, marks_of((0, 1, 2, 3, 0, 3, 2, 1)), None)


class Others(Case):
    """[8.5]"""

    def test_right_marks_of_no_ring(self):
        self.judged(False, are_ring_marks, STAR, WRONG)
        right = list(right_marks(STAR))
        self.assertIn(WRONG, right)
        self.assertEqual(len([marks for marks in right if ring_by(STAR, marks)[0] == "ring"]), 48)
        self.assertGreater(len(right), 48)

    def test_marks_that_do_not_come_of_one_another(self):
        one, other = (0, 1, 2, 3, 0, 3, 2, 1), (0, 1, 3, 2, 0, 2, 3, 1)
        self.assertEqual((slow_web(one), slow_web(other)), (STAR, STAR))
        self.assertNotEqual(least_form(one), least_form(other))
        self.same(marks_between(STAR, marks_of(one), marks_of(other)), None)

    def test_they_stay_such(self):
        draw = random.Random(810)
        for web in SMALL[::4] + FIVES[::60]:
            right = ring_marks(web)
            for marks in right[::max(1, len(right) // 6)]:
                lot = tuple(v for v in range(web.knots) if draw.random() < 0.5)
                for other in (exchanged_marks(web, marks, lot), opposite_marks(marks)):
                    self.judged(True, are_ring_marks, web, other)
                    self.assertIn(other, right)

    def test_opposite_marks_are_of_the_ring_from_behind(self):
        for ring in [ring for ring in drawn_rings(40, seed=811) if in_one_piece([slow_web(ring)])]:
            web, marks = slow_web(ring), marks_of(ring)
            behind = ring_by(web, opposite_marks(marks))[1]
            at = slow_places(ring, 0)[0]
            self.same(behind, tuple(ring[(at - k) % len(ring)] for k in range(len(ring))))


class Refusals(Case):

    def test_web(self):
        for value in NO_WEBS:
            for function in (walk_of, ring_marks):
                self.refused(InvalidWeb, function, value)
            for function in (ring_by, are_ring_marks):
                self.refused(InvalidWeb, function, value, ((0,),))
                self.refused(InvalidWeb, function, value, None)
            self.refused(InvalidWeb, marks_between, value, ((0,),), ((0,),))
            self.refused(InvalidWeb, marks_between, value, None, None)
            self.refused(InvalidWeb, is_marks_between, value, ((0,),), ((0,),), ((), 0))

    def test_pieces(self):
        for web in PIECES + in_pieces(webs_up_to(4))[::5]:
            marks = ((0,) * web.knots,) * web.knots
            for function in (walk_of, ring_marks):
                self.refused(Refused, function, web, kept=("reason", ("pieces",)))
            self.refused(Refused, ring_by, web, marks, kept=("reason", ("pieces",)))
            for value in (marks, None, marks[:-1], 0):
                self.refused(Refused, are_ring_marks, web, value, kept=("reason", ("pieces",)))
        web = Web(2, ())
        for value in (None, ((), 0), ((0,), 1)):
            self.refused(Refused, is_marks_between, web, ((0, 1), (0, 0)), ((0, 0), (0, 0)), value,
                         kept=("reason", ("pieces",)))
        self.refused(Refused, marks_between, web, ((0, 1), (0, 0)), ((0, 0), (0, 0)), kept=("reason", ("pieces",)))

    def test_marks(self):
        for value in NO_MARKS + STRAYS:
            self.refused(InvalidMarks, ring_by, EDGE, value)
            self.refused(InvalidMarks, ring_by, Web(2, ()), value)
            for web in (EDGE, Web(2, ())):
                right = ((0, 1), (0, 0))
                self.refused(InvalidMarks, marks_between, web, value, right)
                self.refused(InvalidMarks, marks_between, web, right, value)
                self.refused(InvalidMarks, marks_between, web, value, None)
                self.refused(InvalidMarks, is_marks_between, web, value, right, ((), 0))
                self.refused(InvalidMarks, is_marks_between, web, right, value, None)
        for value in bent(marks_of(FIVER), 10 ** 99):
            self.refused(InvalidMarks, ring_by, slow_web(FIVER), value)
        for many, other in ((1, 2), (3, 2), (10, 9)):
            self.refused(InvalidMarks, ring_by, Web(many, ()), ((0,) * other,) * other)

    def test_marks_that_are_not_right(self):
        for marks in all_marks(2):
            if not slow_are_right(EDGE, marks):
                self.refused(InvalidMarks, marks_between, EDGE, marks, ((0, 1), (0, 0)))
                self.refused(InvalidMarks, marks_between, EDGE, ((0, 1), (0, 0)), marks)
                self.refused(InvalidMarks, is_marks_between, EDGE, ((0, 1), (0, 0)), marks, ((), 0))
                self.refused(InvalidMarks, is_marks_between, EDGE, marks, marks, None)
        web = beside(EDGE, Web(1, ()))
        self.refused(InvalidMarks, marks_between, web, ((0,) * 3,) * 3, ((0,) * 3,) * 3)
        for web in BARRED:
            marks = ((0,) * web.knots,) * web.knots
            self.refused(InvalidMarks, marks_between, web, marks, marks)

    def test_more_than_five_knots(self):
        for web in (full_web(6), WHEEL, round_web(10)):
            self.refused(TooMany, ring_marks, web, kept=("limit", 5))
        for web in (Web(6, ()), beside(ROUND, Web(1, ())), Web(10, ())):
            self.refused(Refused, ring_marks, web, kept=("reason", ("pieces",)))
        self.assertEqual(len(ring_marks(star_web(5))), 384)
        self.same(ring_marks(Web(1, ())), (((0,),),))


class NotTrue(Case):
    """[8.6]"""

    def test_right_marks_are_those_of_rings(self):
        self.assertTrue(slow_are_right(STAR, WRONG))
        self.judged(False, are_ring_marks, STAR, WRONG)

    def test_all_of_rings_and_yet_no_unsplit_web(self):
        for web in (Web(1, ()), EDGE, path_web(3)):
            self.same(ring_marks(web), tuple(sorted(right_marks(web))))
            self.judged(False, is_unsplit, web)

    def test_it_stands_still_and_yet_there_is_a_ring(self):
        self.assertEqual(ring_by(STAR, WRONG)[0], "gap")
        self.assertEqual(slow_web((0, 1, 2, 3, 0, 3, 2, 1)), STAR)


if __name__ == "__main__":
    unittest.main()
