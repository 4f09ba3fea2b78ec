"""Stage 6: rings [6.1] to [6.7]."""

import random
import unittest
from itertools import permutations

from tests.helper import DEEP, STRAYS, Case, among, bent, is_knot, lots, pairs_of
from tiedanew.errors import InvalidLot, InvalidNumber, InvalidOperation, InvalidRing, Refused, TooMany
from tiedanew.ring.rings import (
    crossing, ends_of, is_ring, least_form, left_out_ring, mirrored, renamed_ring, rings_beside, rings_joined,
    swung_ring, turned_about, turned_ring, web_of)
from tiedanew.split.splits import joined_at
from tiedanew.web.webs import Web, beside, left_out, renamed, swung, turned

FIVER = (0, 1, 4, 0, 3, 4, 2, 3, 1, 2)
LONG = tuple(range(10)) + tuple(range(10))
NO_RINGS = STRAYS + (
    (0,), (0, 0, 0), (0, 1), (0, 0, 0, 0), (1, 1), (0, 1, 0, 2), (0, 0, 2, 2), (1, 1, 2, 2), (0, 1, 1), (0, 0, 1),
    (0, 0, 1, 1, 1), (0, 0, 1, 1, 2), (False, False), (0, False), (0, 0, True, 1), (0, 1, 0, True), (-1, -1, 0, 0),
    [0, 0], [0, 1, 0, 1], "0011", ("0", "0"), (None, None), ((0, 0),), ((0, 0), (1, 1)), (0, 0, 10 ** 60, 10 ** 60),
    tuple(range(11)) * 2, (10,) * 2 + LONG, DEEP, {0: 0, 1: 0})
WRONG_RINGS = tuple(value for value in NO_RINGS if not among(value, [(0, 0)]))


def all_rings(many):
    """All rings of so many chords."""
    def put(ring, name):
        if name == many:
            yield tuple(ring)
            return
        free = [at for at, other in enumerate(ring) if other is None]
        for i, first in enumerate(free):
            for last in free[i + 1:]:
                more = list(ring)
                more[first] = more[last] = name
                yield from put(more, name + 1)
    yield from put([None] * (2 * many), 0)


def drawn_ring(draw, many):
    return tuple(draw.sample(list(range(many)) * 2, 2 * many))


def drawn_rings(many, least=1, most=10, seed=61):
    draw = random.Random(seed)
    return [drawn_ring(draw, draw.randint(least, most)) for _ in range(many)]


SMALL = [ring for many in (1, 2, 3) for ring in all_rings(many)]
TRIED = SMALL + list(all_rings(4))[::41] + drawn_rings(60) + [FIVER, LONG, LONG[:10] + LONG[:10][::-1]]


def slow_places(ring, name):
    return tuple(at for at, other in enumerate(ring) if other == name)


def slow_do_cross(ring, v, w):
    """Whether of the ends of the one just one is between those of the other one."""
    low, high = slow_places(ring, v)
    return len([at for at in slow_places(ring, w) if low < at < high]) == 1


def slow_web(ring):
    many = len(ring) // 2
    return Web(many, tuple((v, w) for v, w in pairs_of(many) if slow_do_cross(ring, v, w)))


def about(ring):
    """All rings to which turning about leads."""
    return [ring[by:] + ring[:by] for by in range(len(ring))]


class Examples(Case):

    def test_rings_and_webs(self):
        self.same([is_ring((1, 1)), ends_of(FIVER, 3), crossing(FIVER, 0)], [False, (4, 7), (1, 4)])
        self.same(web_of(FIVER).ties, ((0, 1), (0, 4), (1, 2), (2, 3), (3, 4)))

    def test_turned_and_left_out(self):
        self.same([turned_ring(FIVER, 0), swung_ring(FIVER, 0, 1), left_out_ring(FIVER, 2)], [
            (0, 4, 1, 0, 3, 4, 2, 3, 1, 2), (0, 3, 4, 2, 3, 1, 4, 0, 1, 2), (0, 1, 3, 0, 2, 3, 2, 1)])

    def test_about(self):
        self.same([turned_about((0, 1, 0, 1), 1), mirrored((0, 0, 1, 1)), least_form((1, 1, 0, 0))], [
            (1, 0, 1, 0), (1, 1, 0, 0), (0, 0, 1, 1)])
        self.same(rings_joined((0, 2, 1, 2, 0, 1), (0, 1, 0, 1), (0, 2)), (2, 1, 0, 2, 0, 1))


class WhatRingsAre(Case):

    def test_rings(self):
        self.assertEqual([len(list(all_rings(many))) for many in (1, 2, 3, 4)], [1, 6, 90, 2520])
        for ring in TRIED + list(all_rings(4)):
            self.judged(True, is_ring, ring)
        for many in range(1, 11):
            self.judged(True, is_ring, tuple(range(many)) * 2)
            self.judged(True, is_ring, tuple(k // 2 for k in range(2 * many)))

    def test_no_rings(self):
        for value in WRONG_RINGS:
            self.judged(False, is_ring, value)
        for right in ((0, 0), (0, 1, 0, 1), FIVER):
            for value in tuple(bent(right)) + ((right,), right[:-1], right + right[:1], right + right):
                self.judged(False, is_ring, value)

    def test_ends_and_crossing(self):
        for ring in TRIED:
            for name in range(len(ring) // 2):
                self.same(self.told(ends_of, ring, name), slow_places(ring, name))
                self.same(self.told(crossing, ring, name), tuple(
                    other for other in range(len(ring) // 2) if other != name and slow_do_cross(ring, name, other)))


class Webs(Case):

    def test_by_places(self):
        for ring in TRIED:
            self.assertEqual(self.told(web_of, ring), slow_web(ring))
        self.assertEqual(web_of((0, 0)), Web(1, ()))
        self.assertEqual(web_of(LONG), Web(10, tuple(pairs_of(10))))

    def test_turned_about_and_from_behind(self):
        for ring in TRIED:
            self.same(self.told(mirrored, ring), tuple(ring[len(ring) - 1 - at] for at in range(len(ring))))
            self.same(mirrored(mirrored(ring)), ring)
            self.assertEqual(web_of(mirrored(ring)), slow_web(ring))
            for by in range(len(ring)):
                other = self.told(turned_about, ring, by)
                self.same(other, tuple(ring[(at + by) % len(ring)] for at in range(len(ring))))
                self.assertEqual(web_of(other), slow_web(ring))
            self.same(turned_about(ring, 0), ring)


class Turned(Case):

    def slow_turned(self, ring, name):
        low, high = slow_places(ring, name)
        return tuple(ring[low + high - at] if low <= at <= high else ring[at] for at in range(len(ring)))

    def test_turned(self):
        for ring in TRIED:
            for name in range(len(ring) // 2):
                behind = self.told(turned_ring, ring, name)
                self.same(behind, self.slow_turned(ring, name))
                self.same(turned_ring(behind, name), ring)
                self.assertEqual(web_of(behind), turned(slow_web(ring), name))
                for v, w in pairs_of(len(ring) // 2):
                    if name not in (v, w):
                        both = slow_do_cross(ring, name, v) and slow_do_cross(ring, name, w)
                        self.assertEqual(slow_do_cross(behind, v, w), slow_do_cross(ring, v, w) != both)

    def test_swung(self):
        for ring in TRIED:
            for v in range(len(ring) // 2):
                for w in range(len(ring) // 2):
                    if v == w or not slow_do_cross(ring, v, w):
                        self.refused(Refused, swung_ring, ring, v, w, kept=("reason", ("untied",)))
                        continue
                    behind = self.told(swung_ring, ring, v, w)
                    self.same(behind, self.slow_turned(self.slow_turned(self.slow_turned(ring, v), w), v))
                    self.assertEqual(web_of(behind), swung(slow_web(ring), v, w))
                    self.assertIn(behind, about(swung_ring(ring, w, v)))
                    self.assertIn(behind, about(self.exchanged(ring, v, w)))

    def exchanged(self, ring, v, w):
        """v A w B v C w D becomes v C w B v A w D [6.3]."""
        ring = next(way for way in about(ring) if way[0] == v)
        a, b = ring.index(w), ring.index(v, 1)
        c = ring.index(w, b)
        return (v,) + ring[b + 1:c] + (w,) + ring[a + 1:b] + (v,) + ring[1:a] + (w,) + ring[c + 1:]

    def test_left_out(self):
        for ring in TRIED:
            for name in range(len(ring) // 2):
                if len(ring) == 2:
                    self.refused(Refused, left_out_ring, ring, name, kept=("reason", ("last",)))
                    continue
                behind = self.told(left_out_ring, ring, name)
                names = [other for other in range(len(ring) // 2) if other != name]
                self.same(behind, tuple(names.index(other) for other in ring if other != name))
                self.assertEqual(web_of(behind), left_out(slow_web(ring), name))


class Joined(Case):

    def slow_joined(self, one, other, lot):
        """A C B D of m A m B and k C k D, the markers' first ends being those told."""
        def stretches(ring):
            low, high = slow_places(ring, len(ring) // 2 - 1)
            ring = ring[low:] + ring[:low]
            return ring[1:high - low], ring[high - low + 1:]
        beyond = [v for v in range(len(one) // 2 + len(other) // 2 - 2) if v not in lot]
        (a, b), (c, d) = stretches(one), stretches(other)
        rows = ((a, lot), (c, beyond), (b, lot), (d, beyond))
        return tuple(names[name] for stretch, names in rows for name in stretch)

    def test_small_ones(self):
        rings = [ring for many in (2, 3) for ring in all_rings(many)]
        for one in rings[::5] + rings[:6]:
            for other in rings[::7] + rings[:6]:
                sizes = len(one) // 2 - 1, len(other) // 2 - 1
                for lot in lots(sum(sizes)):
                    if len(lot) == sizes[0]:
                        both = self.told(rings_joined, one, other, lot)
                        self.same(both, self.slow_joined(one, other, lot))
                        self.judged(True, is_ring, both)
                        self.assertEqual(web_of(both), joined_at(slow_web(one), slow_web(other), lot))

    def test_drawn_ones(self):
        draw = random.Random(62)
        for _ in range(80):
            sizes = draw.randint(2, 6), draw.randint(2, 6)
            one, other = (drawn_ring(draw, size) for size in sizes)
            lot = tuple(sorted(draw.sample(range(sum(sizes) - 2), sizes[0] - 1)))
            both = self.told(rings_joined, one, other, lot)
            self.same(both, self.slow_joined(one, other, lot))
            self.assertEqual(web_of(both), joined_at(slow_web(one), slow_web(other), lot))

    def test_ten_and_eleven(self):
        for first in range(2, 11):
            one, lot = LONG[:first] * 2, tuple(range(first - 1))
            self.assertEqual(len(rings_joined(one, LONG[:12 - first] * 2, lot)), 20)
            if first > 2:
                self.refused(TooMany, rings_joined, one, LONG[:13 - first] * 2, lot, kept=("limit", 10))
        self.refused(TooMany, rings_joined, LONG, LONG, tuple(range(9, 18)), kept=("limit", 10))

    def test_beside(self):
        for one in SMALL[::4] + drawn_rings(6, most=5):
            for other in SMALL[::4] + drawn_rings(6, most=5, seed=63):
                both = self.told(rings_beside, one, other)
                self.same(both, one + tuple(name + len(one) // 2 for name in other))
                self.assertEqual(web_of(both), beside(slow_web(one), slow_web(other)))
        for first in range(1, 10):
            self.assertEqual(len(rings_beside(LONG[:first] * 2, LONG[:10 - first] * 2)), 20)
            self.refused(TooMany, rings_beside, LONG[:first] * 2, LONG[:11 - first] * 2, kept=("limit", 10))
        self.refused(TooMany, rings_beside, LONG, (0, 0), kept=("limit", 10))


class Forms(Case):

    def test_least_of_all_that_are_like(self):
        for ring in TRIED + list(all_rings(3)):
            like = about(ring) + about(ring[::-1])
            form = self.told(least_form, ring)
            self.same(form, sorted(like)[0])
            for other in like[::3]:
                self.same(least_form(other), form)

    def test_like_exactly_if_one_form(self):
        for one in all_rings(2):
            for other in all_rings(2):
                like = other in about(one) + about(one[::-1])
                self.assertEqual(least_form(one) == least_form(other), like)

    def test_renamed(self):
        draw = random.Random(64)
        for ring in TRIED:
            many = len(ring) // 2
            orders = list(permutations(range(many))) if many < 4 else [tuple(draw.sample(range(many), many))]
            for order in orders:
                behind = self.told(renamed_ring, ring, order)
                self.same(behind, tuple(order[name] for name in ring))
                self.assertEqual(web_of(behind), renamed(slow_web(ring), order))


class Refusals(Case):

    def test_ring(self):
        for value in WRONG_RINGS:
            for function in (web_of, mirrored, least_form):
                self.refused(InvalidRing, function, value)
            for function in (ends_of, crossing, turned_ring, left_out_ring, turned_about):
                self.refused(InvalidRing, function, value, 0)
                self.refused(InvalidRing, function, value, -1)
            self.refused(InvalidRing, swung_ring, value, 0, 1)
            self.refused(InvalidRing, renamed_ring, value, (0,))
            self.refused(InvalidRing, rings_beside, value, FIVER)
            self.refused(InvalidRing, rings_beside, LONG, value)
            self.refused(InvalidRing, rings_joined, value, FIVER, ())
            self.refused(InvalidRing, rings_joined, (0, 0), value, None)

    def test_name(self):
        for value in STRAYS + (5, -1, True, (0,), "0", 10 ** 60):
            if not is_knot(value, 5):
                for function in (ends_of, crossing, turned_ring, left_out_ring):
                    self.refused_number(InvalidNumber, function, FIVER, value, at=1)
                self.refused_number(InvalidNumber, swung_ring, FIVER, value, 0, at=1)
                self.refused_number(InvalidNumber, swung_ring, FIVER, value, 77, at=1)
                self.refused_number(InvalidNumber, swung_ring, FIVER, 0, value, at=2)
        self.refused_number(InvalidNumber, left_out_ring, (0, 0), 1, at=1)
        self.refused_number(InvalidNumber, swung_ring, (0, 0), 0, 1, at=2)
        self.refused(Refused, swung_ring, (0, 0), 0, 0, kept=("reason", ("untied",)))

    def test_place(self):
        for value in STRAYS + (10, 11, -1, True, False, (0,), 10 ** 60):
            if not is_knot(value, 10):
                self.refused_number(InvalidNumber, turned_about, FIVER, value, at=1)
        self.refused_number(InvalidNumber, turned_about, (0, 0), 2, at=1)
        self.same([turned_about(FIVER, 9), turned_about((0, 0), 1)], [FIVER[9:] + FIVER[:9], (0, 0)])

    def test_order(self):
        wrong = STRAYS + (
            (0, 1, 2, 3), (0, 1, 2, 3, 3), (0, 1, 2, 3, 5), (1, 2, 3, 4, 5), (0, 1, 2, 3, 4, 4), (-1, 0, 1, 2, 3),
            (False, 1, 2, 3, 4), (0, True, 2, 3, 4), [0, 1, 2, 3, 4], "01234", (0, 1, 2, 3, None),
            (0, 1, 2, 3, 10 ** 60))
        for value in wrong:
            self.refused(InvalidOperation, renamed_ring, FIVER, value)
        self.refused(InvalidOperation, renamed_ring, (0, 0), ())
        self.refused(InvalidOperation, renamed_ring, (0, 0), (False,))

    def test_lot(self):
        one, other, alone = (0, 1, 2, 0, 1, 2), (0, 1, 0, 1), (0, 0)
        bad = (
            (1, 0), (0, 0), (-1, 0), (0, True), (False, 1), [0, 1], "01", (0, 10 ** 60), (10 ** 60,), ((0, 1),), None,
            {0: 0}, 0, (0, None), Web(1, ()))
        for value in bad:
            for first, second in ((one, other), (alone, other), (one, alone), (alone, alone), (LONG, LONG)):
                self.refused(InvalidLot, rings_joined, first, second, value)
        for value in ((), (0,), (0, 1), (0, 5), (10 ** 59,), (3, 10 ** 60 - 1), tuple(range(30))):
            for first, second in ((alone, other), (one, alone), (alone, alone), (LONG, alone)):
                self.refused(Refused, rings_joined, first, second, value, kept=("reason", ("last",)))
        for value in ((), (0,), (0, 1, 2), (0, 3), (2, 3), (1, 10 ** 59)):
            self.refused(InvalidLot, rings_joined, one, other, value)
        for value in (tuple(range(8)), tuple(range(10)), tuple(range(8)) + (18,), ()):
            self.refused(InvalidLot, rings_joined, LONG, LONG, value)
        for value in STRAYS:
            if not among(value, [(), (0,), (0, 1), (1, 2)]):
                self.refused(InvalidLot, rings_joined, one, other, value)
        self.same(rings_joined(one, other, (1, 2)), (1, 2, 0, 1, 2, 0))


class NotTrue(Case):
    """[6.7]"""

    def test_equal_webs_unlike_rings(self):
        one, other = (0, 0, 1, 2, 2, 1), (0, 0, 1, 1, 2, 2)
        self.assertEqual(web_of(one), web_of(other))
        self.assertNotEqual(least_form(one), least_form(other))

    def test_both_sequences(self):
        self.assertNotEqual(turned_ring(turned_ring(FIVER, 0), 1), turned_ring(turned_ring(FIVER, 1), 0))

    def test_the_form_of_a_turned_ring(self):
        self.assertNotEqual(least_form(turned_ring(FIVER, 0)), least_form(FIVER))


if __name__ == "__main__":
    unittest.main()
