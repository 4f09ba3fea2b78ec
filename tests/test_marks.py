"""Stage 7: marks [7.1] to [7.7], and what [0.14] tells of sums."""

import random
import unittest
from itertools import product

from tests.helper import (
    DEEP, PATH, ROUND, STAR, STRAYS, WHEEL, Case, all_webs, among, bent, drawn_webs, edge_webs, full_web, is_knot,
    joined, lots, pairs_of, round_web, webs_up_to)
from tests.test_cuts import NO_LOTS
from tests.test_rings import FIVER, SMALL, TRIED, WRONG_RINGS, all_rings, drawn_rings, slow_places, slow_web
from tests.test_webs import NO_WEBS
from tiedanew.errors import InvalidLot, InvalidMarks, InvalidNumber, InvalidRing, InvalidWeb, Refused
from tiedanew.ring.marks import (
    are_marks, exchanged_marks, free_bits, is_marks_or_bar, marks_left, marks_of, marks_or_bar, opposite_marks, sums_of,
    turned_marks)
from tiedanew.ring.rings import left_out_ring, mirrored, turned_ring
from tiedanew.web.webs import Web, beside, left_out, turned, turned_by

EDGE = Web(2, ((0, 1),))
PRISM = Web(6, ((0, 1), (0, 2), (0, 3), (1, 2), (1, 4), (2, 5), (3, 4), (3, 5), (4, 5)))
BARRED = [WHEEL, turned(WHEEL, 1), turned_by(WHEEL, (3, 0, 2)), PRISM, beside(WHEEL, PATH), beside(PATH, WHEEL), Web(
    7, ((0, 1), (0, 5), (0, 6), (1, 2), (2, 3), (2, 6), (3, 4), (4, 5), (4, 6))), Web(
    8, tuple((0, v) for v in range(1, 8)) + ((1, 2), (1, 7), (2, 3), (3, 4), (4, 5), (5, 6), (6, 7)))]
NO_MARKS = (
    (), [], None, 0, True, "0", ((),), ((1,),), ((False,),), ((0,), (0,)), ((0, 0),), ((0, 1), (0,)), ((0, 1), (0, 1)),
    ((1, 0), (0, 0)), ((0, 2), (0, 0)), ((0, -1), (0, 0)), ((0, True), (0, 0)), ((0, 1), (False, 0)), [(0, 1), (0, 0)],
    ([0, 1], (0, 0)), ((0, 1), [0, 0]), ("01", "00"), ((0, None), (0, 0)), ((0, 1), None), {0: (0, 1), 1: (0, 0)},
    ((0, 10 ** 60), (0, 0)), ((0, 1, 0), (0, 0, 0)), ((0,) * 11,) * 11, DEEP, Web(1, ()), (Web(2, ()), Web(2, ())))


def all_marks(many):
    """All marks for so many knots, right or not."""
    for bits in product((0, 1), repeat=many * (many - 1)):
        rows = [bits[v * (many - 1):(v + 1) * (many - 1)] for v in range(many)]
        yield tuple(row[:v] + (0,) + row[v:] for v, row in enumerate(rows))


def drawn_marks(draw, many):
    return tuple(tuple(draw.randint(0, 1) * (v != w) for w in range(many)) for v in range(many))


def slow_sums(web):
    """All sums in the told sequence [7.2]."""
    found = [((tie, tie[::-1]), 1) for tie in web.ties]
    for v in range(web.knots):
        for w, x in pairs_of(web.knots):
            if v not in (w, x):
                close = [joined(web, v, w), joined(web, v, x)]
                if joined(web, w, x) and not any(close):
                    found.append((((v, w), (v, x)), 0))
                if not joined(web, w, x) and all(close):
                    found.append((((v, w), (v, x), (w, x), (x, w)), 1))
    return tuple(found)


def slow_are_right(web, marks):
    return all(sum(marks[v][w] for v, w in members) % 2 == bit for members, bit in slow_sums(web))


def slow_is_bar(web, indices):
    sums = slow_sums(web)
    members = [member for index in indices for member in sums[index][0]]
    return all(members.count(member) % 2 == 0 for member in members) and sum(sums[k][1] for k in indices) % 2 == 1


def slow_marks(ring):
    many = len(ring) // 2
    ends = [slow_places(ring, name) for name in range(many)]
    return tuple(tuple(int(ends[v][0] < ends[w][0] < ends[v][1]) for w in range(many)) for v in range(many))


class Examples(Case):

    def test_marks_and_sums(self):
        self.same([marks_of((0, 1, 0, 1)), marks_of((0, 0, 1, 1)), sums_of(EDGE)], [
            ((0, 1), (0, 0)), ((0, 0), (0, 0)), ((((0, 1), (1, 0)), 1),)])
        self.same([sums_of(Web(3, ((0, 1),))), sums_of(Web(3, ((0, 1), (0, 2))))[2]], [
            ((((0, 1), (1, 0)), 1), (((2, 0), (2, 1)), 0)), (((0, 1), (0, 2), (1, 2), (2, 1)), 1)])

    def test_papers(self):
        self.same([free_bits(EDGE), free_bits(slow_web(FIVER)), free_bits(WHEEL), marks_or_bar(WHEEL)[0]], [
            1, 6, None, "bar"])
        self.judged(True, are_marks, slow_web(FIVER), marks_of(FIVER))

    def test_changed(self):
        self.same(turned_marks(slow_web(FIVER), marks_of(FIVER), 0), marks_of(turned_ring(FIVER, 0)))
        self.same([exchanged_marks(EDGE, ((0, 1), (0, 0)), (0,)), opposite_marks(((0, 1), (0, 0)))], [
            ((0, 0), (1, 0)), ((0, 0), (1, 0))])

    def test_error(self):
        self.refused(Refused, marks_left, ((0,),), 0, kept=("reason", ("last",)))


class MarksOfRings(Case):

    def test_by_places(self):
        for ring in TRIED:
            self.same(self.told(marks_of, ring), slow_marks(ring))
            self.judged(True, are_marks, slow_web(ring), slow_marks(ring))
            self.judged(True, is_marks_or_bar, slow_web(ring), ("marks", slow_marks(ring)))
            self.assertIsNotNone(free_bits(slow_web(ring)))


class Sums(Case):

    def test_their_sequence(self):
        for web in list(webs_up_to(4)) + list(all_webs(5))[::11] + drawn_webs(25) + edge_webs() + BARRED:
            self.same(self.told(sums_of, web), slow_sums(web))
        for web in (Web(1, ()), Web(2, ()), Web(10, ())):
            self.same(sums_of(web), ())
        self.assertEqual(len(sums_of(full_web(10))), 45)

    def test_right_marks_by_trying_all(self):
        webs = list(webs_up_to(3)) + [PATH, STAR, Web(4, ()), full_web(4), round_web(4), Web(4, ((0, 3), (1, 2)))]
        for web in webs:
            count = 0
            for marks in all_marks(web.knots):
                right = slow_are_right(web, marks)
                count += right
                self.judged(right, are_marks, web, marks)
                if web.knots < 4:
                    self.judged(right, is_marks_or_bar, web, ("marks", marks))
            self.assertEqual(count, 2 ** free_bits(web))
            self.assertEqual(marks_or_bar(web)[0], "marks")

    def test_either_or(self):
        words = set()
        for web in list(webs_up_to(4)) + drawn_webs(60, seed=71) + edge_webs() + BARRED:
            word, told = found = self.told(marks_or_bar, web)
            words.add(word)
            self.judged(True, is_marks_or_bar, web, found)
            if word == "marks":
                self.assertTrue(slow_are_right(web, told))
                self.judged(True, are_marks, web, told)
                self.same(free_bits(web), web.knots * (web.knots - 1) - self.slow_sum_rank(web))
            else:
                self.assertTrue(slow_is_bar(web, told))
                self.assertEqual(list(told), sorted(set(told)))
                self.assertTrue(told)
                self.same(free_bits(web), None)
                self.assertIs(type(told), tuple)
        self.assertEqual(words, {"marks", "bar"})

    def slow_sum_rank(self, web):
        """The rank of the members of all sums, one put to another till first ones are apart."""
        heads = {}
        for members, _ in slow_sums(web):
            row = set(members)
            while row and min(row) in heads:
                row ^= heads[min(row)]
            if row:
                heads[min(row)] = row
        return len(heads)

    def test_webs_without_right_marks(self):
        for web in BARRED:
            word, bar = marks_or_bar(web)
            self.assertEqual(word, "bar")
            self.assertTrue(slow_is_bar(web, bar))
            self.same(free_bits(web), None)
            for knot in range(web.knots):
                self.assertEqual(marks_or_bar(turned(web, knot))[0], "bar")
        for web in BARRED[:4]:
            for knot in range(web.knots):
                self.assertEqual(marks_or_bar(left_out(web, knot))[0], "marks")

    def test_webs_of_five_knots_have_right_marks(self):
        for web in list(webs_up_to(4)) + list(all_webs(5))[::13]:
            self.assertIsNotNone(free_bits(web))

    def test_unsplit_webs(self):
        for web, count in ((ROUND, 6), (round_web(6), 7), (round_web(10), 11)):
            self.same(free_bits(web), count)

    def test_edges(self):
        self.same([marks_or_bar(Web(1, ())), free_bits(Web(1, ()))], [("marks", ((0,),)), 0])
        self.judged(True, are_marks, Web(1, ()), ((0,),))
        self.same([free_bits(Web(2, ())), free_bits(Web(10, ()))], [2, 90])
        self.judged(True, are_marks, Web(10, ()), drawn_marks(random.Random(72), 10))


class Bars(Case):

    def test_all_bars(self):
        web = WHEEL
        bar = marks_or_bar(web)[1]
        self.judged(True, is_marks_or_bar, web, ("bar", bar))
        for index in range(len(sums_of(web))):
            other = tuple(sorted(set(bar) ^ {index}))
            self.judged(slow_is_bar(web, other), is_marks_or_bar, web, ("bar", other))
        kernel = self.sums_to_nothing(web)
        found = 0
        for pick in kernel[:60]:
            for pick_other in kernel[:20]:
                other = tuple(sorted(set(bar) ^ set(pick) ^ set(pick_other)))
                right = bool(other) and slow_is_bar(web, other)
                found += right
                self.judged(right, is_marks_or_bar, web, ("bar", other))
        self.assertGreater(found, 2)

    def sums_to_nothing(self, web):
        """Lots of sums whose members stand evenly often, found by putting one to another."""
        heads, found = {}, []
        for index, (members, _) in enumerate(sums_of(web)):
            row, pick = set(members), {index}
            while row and min(row) in heads:
                more, others = heads[min(row)]
                row, pick = row ^ more, pick ^ others
            if row:
                heads[min(row)] = (row, pick)
            else:
                found.append(pick)
        return found

    def test_wrong_papers(self):
        bar = marks_or_bar(WHEEL)
        web = slow_web(FIVER)
        marks = ("marks", marks_of(FIVER))
        for where, right in ((WHEEL, bar), (web, marks)):
            self.judged(True, is_marks_or_bar, where, right)
            wrong = STRAYS + tuple(bent(right)) + (
                ("bar", ()), ("bar", (0,)), ("marks", ()), ("bar", right[1]), ("marks", right[1]), right[1],
                right[::-1], (right,), right + right, ("bar", right[1][::-1]), ("bar", right[1] + right[1]), ("ring", right[1]))
            for value in wrong:
                if not among(value, [right]):
                    self.judged(False, is_marks_or_bar, where, value)
        many = len(sums_of(WHEEL))
        self.judged(False, is_marks_or_bar, WHEEL, ("bar", tuple(k - many for k in bar[1])))
        self.judged(False, is_marks_or_bar, WHEEL, ("bar", bar[1] + (many,)))
        self.judged(False, is_marks_or_bar, web, bar)
        self.judged(False, is_marks_or_bar, Web(1, ()), ("bar", ()))
        for value in all_marks(2):
            self.judged(False, is_marks_or_bar, WHEEL, ("marks", value))

    def test_wrong_marks(self):
        for value in NO_MARKS + STRAYS:
            for web in (EDGE, Web(2, ()), WHEEL, Web(10, ())):
                self.judged(False, are_marks, web, value)
                self.judged(False, is_marks_or_bar, web, ("marks", value))
        for value in tuple(bent(marks_of(FIVER))) + (marks_of(FIVER)[1:], marks_of(FIVER) + ((0,) * 5,)):
            self.judged(False, are_marks, slow_web(FIVER), value)
        self.judged(False, are_marks, Web(5, ()), ((1, 0, 0, 0, 0),) + ((0,) * 5,) * 4)
        self.judged(False, are_marks, Web(2, ()), ((0,),))
        self.judged(False, are_marks, Web(1, ()), ((0, 0), (0, 0)))


class Changed(Case):

    def slow_exchanged(self, web, marks, lot):
        found = [list(row) for row in marks]
        for v in lot:
            for w in range(web.knots):
                if w != v:
                    found[v][w] ^= 1
                    if joined(web, v, w):
                        found[w][v] ^= 1
        return tuple(map(tuple, found))

    def test_ends_exchanged(self):
        draw = random.Random(73)
        for web in list(webs_up_to(4))[::3] + drawn_webs(8, seed=74) + edge_webs() + BARRED[:2]:
            for marks in [drawn_marks(draw, web.knots), marks_or_bar(web)[1]]:
                if len(marks) == web.knots and isinstance(marks[0], tuple):
                    right = slow_are_right(web, marks)
                    for lot in [(), tuple(range(web.knots))] + draw.sample(lots(web.knots), min(5, 2 ** web.knots)):
                        other = self.told(exchanged_marks, web, marks, lot)
                        self.same(other, self.slow_exchanged(web, marks, lot))
                        self.judged(right, are_marks, web, other)
                        self.same(exchanged_marks(web, other, lot), marks)

    def test_opposite(self):
        draw = random.Random(75)
        for many in range(1, 11):
            marks = drawn_marks(draw, many)
            other = self.told(opposite_marks, marks)
            self.same(other, tuple(tuple(1 - marks[v][w] if v != w else 0 for w in range(many)) for v in range(many)))
            self.same(opposite_marks(other), marks)
        for web in list(webs_up_to(4))[::3] + drawn_webs(8, seed=76) + edge_webs():
            word, marks = marks_or_bar(web)
            if word == "marks":
                self.judged(True, are_marks, web, opposite_marks(marks))

    def test_rings_turned_about(self):
        """Who begins a ring elsewhere exchanges ends [7.4]."""
        for ring in SMALL + drawn_rings(30, seed=77):
            for by in range(len(ring)):
                lot = tuple(sorted(name for name in range(len(ring) // 2) if ring[:by].count(name) == 1))
                other = ring[by:] + ring[:by]
                self.same(marks_of(other), exchanged_marks(slow_web(ring), marks_of(ring), lot))

    def test_rings_from_behind(self):
        for ring in SMALL + drawn_rings(30, seed=78):
            marks, many = marks_of(ring), len(ring) // 2
            self.same(marks_of(mirrored(ring)), tuple(
                tuple(marks[v][w] ^ joined(slow_web(ring), v, w) for w in range(many)) for v in range(many)))

    def test_rings_turned(self):
        for ring in TRIED:
            for knot in range(len(ring) // 2):
                behind = self.told(turned_marks, slow_web(ring), slow_marks(ring), knot)
                self.same(behind, slow_marks(turned_ring(ring, knot)))

    def slow_turned(self, web, marks, v):
        """[7.5], case by case."""
        close = [x for x in range(web.knots) if joined(web, v, x)]
        within = [y for y in range(web.knots) if y not in close and marks[v][y] == 1]
        found = [list(row) for row in marks]
        for x in range(web.knots):
            for y in range(web.knots):
                if v in (x, y) or x == y:
                    continue
                cases = (x in close and y in close and marks[v][y] == 1,
                         x in close and y in within and not joined(web, x, y),
                         x in within and y in within and joined(web, x, y))
                if any(cases):
                    found[x][y] ^= 1
        return tuple(map(tuple, found))

    def test_any_marks_turned(self):
        draw = random.Random(79)
        for web in list(webs_up_to(4))[::2] + drawn_webs(20, seed=80) + edge_webs() + BARRED:
            marks = drawn_marks(draw, web.knots)
            for knot in range(web.knots):
                self.same(self.told(turned_marks, web, marks, knot), self.slow_turned(web, marks, knot))

    def test_left(self):
        draw = random.Random(81)
        for web in list(webs_up_to(4))[1::2] + drawn_webs(20, seed=82) + edge_webs():
            for marks in (drawn_marks(draw, web.knots), marks_or_bar(web)[1]):
                for knot in range(web.knots if web.knots > 1 and len(marks) == web.knots else 0):
                    if isinstance(marks[0], tuple):
                        left = self.told(marks_left, marks, knot)
                        stay = [v for v in range(web.knots) if v != knot]
                        self.same(left, tuple(tuple(marks[v][w] for w in stay) for v in stay))
                        if slow_are_right(web, marks):
                            self.judged(True, are_marks, left_out(web, knot), left)
        for ring in SMALL[1:]:
            for knot in range(len(ring) // 2):
                self.same(marks_left(marks_of(ring), knot), marks_of(left_out_ring(ring, knot)))


class Refusals(Case):

    def test_ring(self):
        for value in WRONG_RINGS:
            self.refused(InvalidRing, marks_of, value)

    def test_web(self):
        for value in NO_WEBS:
            for function in (sums_of, marks_or_bar, free_bits):
                self.refused(InvalidWeb, function, value)
            for function in (are_marks, is_marks_or_bar):
                self.refused(InvalidWeb, function, value, ("marks", ((0,),)))
            self.refused(InvalidWeb, exchanged_marks, value, ((0,),), ())
            self.refused(InvalidWeb, turned_marks, value, ((0,),), 0)
            self.refused(InvalidWeb, turned_marks, value, None, None)

    def test_marks(self):
        for value in NO_MARKS + STRAYS:
            self.refused(InvalidMarks, exchanged_marks, EDGE, value, ())
            self.refused(InvalidMarks, turned_marks, EDGE, value, 0)
            self.refused(InvalidMarks, opposite_marks, value)
            self.refused(InvalidMarks, marks_left, value, 0)
            self.refused(InvalidMarks, exchanged_marks, EDGE, value, (5,))
            self.refused(InvalidMarks, turned_marks, EDGE, value, 5)
            self.refused(InvalidMarks, marks_left, value, 77)
        for value in bent(marks_of(FIVER), 10 ** 99):
            self.refused(InvalidMarks, exchanged_marks, slow_web(FIVER), value, ())
            self.refused(InvalidMarks, opposite_marks, value)
        for many, other in ((1, 2), (3, 2), (10, 9)):
            self.refused(InvalidMarks, exchanged_marks, Web(many, ()), ((0,) * other,) * other, ())
            self.refused(InvalidMarks, turned_marks, Web(many, ()), ((0,) * other,) * other, 0)
        self.same(opposite_marks(((0,),)), ((0,),))

    def test_lot_and_knot(self):
        marks = ((0,) * 4,) * 4
        for value in NO_LOTS:
            self.refused(InvalidLot, exchanged_marks, PATH, marks, value)
        for value in STRAYS + (4, -1, True):
            if not is_knot(value, 4):
                self.refused_number(InvalidNumber, turned_marks, PATH, marks, value, at=2)
                self.refused_number(InvalidNumber, marks_left, marks, value, at=1)
        self.refused_number(InvalidNumber, marks_left, ((0,),), 1, at=1)
        for marks in all_marks(1):
            self.refused(Refused, marks_left, marks, 0, kept=("reason", ("last",)))
        self.same(marks_left(((0, 1), (1, 0)), 1), ((0,),))


class NotTrue(Case):
    """[7.7]"""

    def test_right_marks_of_no_ring(self):
        wrong = ((0, 0, 0, 0), (1, 0, 0, 1), (1, 1, 0, 0), (1, 0, 1, 0))
        self.judged(True, are_marks, STAR, wrong)
        self.assertNotIn(wrong, [slow_marks(ring) for ring in all_rings(4)])

    def test_a_bar_without_the_sum_of_a_tie(self):
        sums, greater = slow_sums(WHEEL), beside(WHEEL, EDGE)
        bar = tuple(sorted(slow_sums(greater).index(sums[index]) for index in marks_or_bar(WHEEL)[1]))
        self.judged(True, is_marks_or_bar, greater, ("bar", bar))
        self.assertNotIn(greater.ties.index((6, 7)), bar)


if __name__ == "__main__":
    unittest.main()
