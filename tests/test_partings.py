"""Stage 5: partings [5.1] to [5.6], and that a web falls apart in one way [0.18]."""

import random
import unittest

from tests.helper import (
    PATH, ROUND, STRAYS, WHEEL, Case, all_webs, among, bent, drawn_webs, edge_webs, full_web, in_one_piece, in_pieces,
    lots, pairs_of, path_web, round_web, star_web, webs_up_to)
from tests.test_cuts import NO_LOTS
from tests.test_splits import slow_splits
from tests.test_webs import NO_WEBS
from tiedanew.errors import InvalidLot, InvalidOperation, InvalidWeb, Refused
from tiedanew.split.partings import are_parts, do_cross, good_splits, parts, put_together, split_count
from tiedanew.split.splits import is_unsplit, joined_at, parted, splits
from tiedanew.web.cuts import unlike_cut
from tiedanew.web.webs import Web, beside, turned

ROW = path_web(5)
ROW_PARTS = (("star", ((0, 0), (0, 1), (1, 0)), ((0, 1), (1, 2))),
             ("star", ((0, 2), (1, 0), (1, 1)), ((0, 1), (0, 2))),
             ("star", ((0, 3), (0, 4), (1, 1)), ((0, 1), (0, 2))))
WORDS = ("tied", "star", "unsplit")


def drawn_ties(draw, many):
    """Ties of a part of so many ends: all, a star, or those of an unsplit web."""
    if many < 5 or draw.random() < 0.7:
        if draw.random() < 0.4:
            return tuple(pairs_of(many))
        hub = draw.randrange(many)
        return tuple(sorted(tuple(sorted((hub, k))) for k in range(many) if k != hub))
    while True:
        web = Web(many, tuple(pair for pair in pairs_of(many) if draw.random() < 0.5))
        if is_unsplit(web):
            return web.ties


def drawn_great_webs(many, seed):
    """Webs in one piece with several parts, joined of stars, tied and unsplit webs."""
    draw, found = random.Random(seed), []
    while len(found) < many:
        size = draw.randint(3, 6)
        web = Web(size, drawn_ties(draw, size))
        while web.knots < 10 and draw.random() < 0.8:
            size = draw.randint(3, max(3, min(6, 12 - web.knots)))
            if web.knots + size - 2 > 10:
                break
            part = Web(size, drawn_ties(draw, size))
            web = joined_at(web, part, tuple(sorted(draw.sample(range(web.knots + size - 2), web.knots - 1))))
        found.append(web)
    return found


GREAT = drawn_great_webs(40, 51)
TRIED = GREAT + in_one_piece(
    list(webs_up_to(4)) + list(all_webs(5))[::7] + drawn_webs(25, most=7, seed=52) + edge_webs())


def slow_do_cross(many, one, other):
    knots = set(range(many))
    return all(a & b for a in (set(one), knots - set(one)) for b in (set(other), knots - set(other)))


def slow_good_splits(web):
    found = slow_splits(web)
    return tuple(one for one in found if not any(slow_do_cross(web.knots, one, other) for other in found))


def slow_word(many, ties):
    if set(ties) == set(pairs_of(many)):
        return "tied"
    for hub in range(many):
        if {frozenset(tie) for tie in ties} == {frozenset((hub, k)) for k in range(many) if k != hub}:
            return "star"
    return "unsplit"


def slow_parts(web, draw):
    """Parts by parting along one good split after the other, in a drawn sequence [5.2]."""
    good = slow_good_splits(web)
    every = frozenset(range(web.knots))
    # Each end stands for knots of the web: itself, or those that are beyond the split.
    found = [(web, [((0, v), frozenset((v,))) for v in range(web.knots)])]
    for k in draw.sample(range(len(good)), len(good)):
        side = frozenset(good[k])
        for part, ends in found:
            inside = [i for i, (_, lot) in enumerate(ends) if lot <= side]
            outside = [i for i, (_, lot) in enumerate(ends) if lot <= every - side]
            if len(inside) + len(outside) == len(ends) and len(inside) > 1 and len(outside) > 1:
                break
        found.remove((part, ends))
        here, there = (inside, outside) if 0 in inside else (outside, inside)
        for lesser, names in zip(parted(part, tuple(here)), (here, there)):
            beyond = every - side if names is inside else side
            found.append((lesser, [ends[i] for i in names] + [((1, k), beyond)]))
    told = []
    for part, ends in found:
        names = sorted(end for end, _ in ends)
        place = {k: names.index(end) for k, (end, _) in enumerate(ends)}
        ties = tuple(sorted(tuple(sorted((place[i], place[j]))) for i, j in part.ties))
        told.append((slow_word(len(names), ties), tuple(names), ties))
    return tuple(sorted(told, key=lambda row: row[1]))


def side_of(told, k):
    """The knots with 0 when the parts are cut at the markers k, None if the parts are no tree there."""
    first = next(row for row in told if (0, 0) in row[1])
    reached, ahead = [first], [first]
    while ahead:
        part = ahead.pop()
        for end in part[1]:
            for other in told:
                if end[0] == 1 and end[1] != k and end in other[1] and other not in reached:
                    reached.append(other)
                    ahead.append(other)
    return tuple(sorted(end[1] for part in reached for end in part[1] if end[0] == 0))


def slow_are_parts(told):
    """[5.3] and [5.2] said of a tuple of triples with ends and ties of their form."""
    ends = [end for part in told for end in part[1]]
    knots = sorted(v for word, v in ends if word == 0)
    markers = sorted(k for word, k in ends if word == 1)
    if knots != list(range(len(knots))) or not 1 <= len(knots) <= 10:
        return False
    if markers != sorted(list(range(len(told) - 1)) * 2):
        return False
    if any(part[1] != tuple(sorted(set(part[1]))) for part in told):
        return False
    if list(told) != sorted(told, key=lambda row: row[1]):
        return False
    if len(side_of(told, None)) != len(knots):
        return False
    for word, part_ends, ties in told:
        if word != slow_word(len(part_ends), ties):
            return False
        if len(part_ends) < 3 and not (len(knots) < 3 and word == "tied"):
            return False
        if word == "unsplit" and not is_unsplit(Web(len(part_ends), ties)):
            return False
    for k in range(len(told) - 1):
        one, other = (part for part in told if (1, k) in part[1])
        if one[0] == other[0] == "tied":
            return False
        if one[0] == other[0] == "star" and is_middle(one, k) != is_middle(other, k):
            return False
    sides = [side_of(told, k) for k in range(len(told) - 1)]
    return sides == sorted(sides)


def is_middle(part, k):
    at = part[1].index((1, k))
    return len([tie for tie in part[2] if at in tie]) == len(part[1]) - 1


class Examples(Case):

    def test_splits(self):
        self.same([good_splits(ROW), good_splits(ROUND)], [((0, 1), (0, 1, 2)), ()])
        self.same([split_count(star_web(5)), do_cross(ROW, (0, 1), (0, 1, 2))], [10, False])

    def test_parts(self):
        self.same(parts(ROW), ROW_PARTS)
        self.same([parts(ROUND)[0][0], parts(Web(1, ()))], ["unsplit", (("tied", ((0, 0),), ()),)])
        self.assertEqual(put_together(parts(ROW)), ROW)
        self.judged(False, are_parts, parts(ROW)[:1])

    def test_error(self):
        self.refused(Refused, parts, Web(2, ()), kept=("reason", ("pieces",)))


class Crossing(Case):

    def test_do_cross(self):
        answers = set()
        for web in list(webs_up_to(4)) + drawn_webs(12, most=6, seed=53) + [full_web(5), star_web(6), Web(5, ())]:
            found = splits(web)[:12]
            for one in found:
                for other in found:
                    expected = slow_do_cross(web.knots, one, other)
                    answers.add(expected)
                    self.judged(expected, do_cross, web, one, other)
        self.assertEqual(answers, {True, False})

    def test_good_splits_and_how_many_there_are(self):
        for web in TRIED:
            found = slow_splits(web)
            self.same(self.told(split_count, web), len(found))
            self.same(self.told(good_splits, web), slow_good_splits(web))

    def test_all_splits(self):
        """[5.4]"""
        for web in TRIED:
            count = len(good_splits(web))
            for word, ends, _ in parts(web):
                if word != "unsplit" and len(ends) > 2:
                    count += 2 ** (len(ends) - 1) - len(ends) - 1
            self.same(split_count(web), count)


class Parts(Case):

    def test_in_whatever_sequence(self):
        draw = random.Random(54)
        for web in TRIED:
            found = self.told(parts, web)
            for _ in range(2):
                self.same(found, slow_parts(web, draw))

    def test_their_form(self):
        for web in TRIED:
            found = parts(web)
            ends = [end for part in found for end in part[1]]
            for k in range(len(good_splits(web))):
                self.assertEqual(ends.count((1, k)), 2)
            self.assertEqual(sorted(end for end in ends if end[0] == 0), [(0, v) for v in range(web.knots)])
            self.assertEqual(len(ends), web.knots + 2 * len(good_splits(web)))
            for word, names, ties in found:
                self.assertEqual(word, slow_word(len(names), ties))
                if word == "unsplit":
                    self.judged(True, is_unsplit, Web(len(names), ties))
            self.assertTrue(slow_are_parts(found))

    def test_put_together_again(self):
        for web in TRIED + in_one_piece(all_webs(5))[::5]:
            found = parts(web)
            self.judged(True, are_parts, found)
            self.assertEqual(self.told(put_together, found), web)

    def test_no_two_webs_have_the_same_parts(self):
        webs = in_one_piece(all_webs(4)) + in_one_piece(all_webs(5))
        self.assertEqual(len({parts(web) for web in webs}), len(webs))

    def test_edges(self):
        self.same(parts(Web(2, ((0, 1),))), (("tied", ((0, 0), (0, 1)), ((0, 1),)),))
        self.same(parts(full_web(3))[0][0], "tied")
        self.same(parts(path_web(3)), (("star", ((0, 0), (0, 1), (0, 2)), ((0, 1), (1, 2))),))
        self.same([part[0] for part in parts(PATH)], ["star", "star"])
        ends = tuple((0, v) for v in range(10))
        for web, word in ((full_web(10), "tied"), (star_web(10), "star"), (round_web(10), "unsplit")):
            self.same(parts(web), ((word, ends, web.ties),))
            self.assertEqual(put_together(((word, ends, web.ties),)), web)
        self.assertEqual(len(parts(path_web(10))), 8)
        self.assertEqual(split_count(full_web(10)), 501)

    def test_turns(self):
        """[5.5]"""
        for web in TRIED:
            found = parts(web)
            for knot in range(web.knots):
                behind = turned(web, knot)
                self.same(good_splits(behind), good_splits(web))
                other = parts(behind)
                self.same([part[1] for part in other], [part[1] for part in found])
                self.same([part[0] == "unsplit" for part in other], [part[0] == "unsplit" for part in found])


class Judge(Case):

    def both(self, value):
        expected = slow_are_parts(value)
        self.judged(expected, are_parts, value)
        if expected:
            self.assertEqual(parts(put_together(value)), value)
        else:
            self.refused(InvalidOperation, put_together, value)
        return expected

    def test_parts_changed(self):
        answers = []
        for web in in_one_piece(webs_up_to(4)) + GREAT[:20] + [ROW, WHEEL, full_web(6), path_web(7)]:
            found = parts(web)
            for index, (word, ends, ties) in enumerate(found):
                lesser = [ties[:k] + ties[k + 1:] for k in range(len(ties))][:4]
                hubs = [tuple(sorted(tuple(sorted((hub, k))) for k in range(len(ends)) if k != hub))
                        for hub in range(len(ends))]
                for other in lesser + hubs + [tuple(pairs_of(len(ends))), ()]:
                    for said in {slow_word(len(ends), other), word}:
                        value = found[:index] + ((said, ends, other),) + found[index + 1:]
                        answers.append(self.both(value))
                if (0, 0) not in ends:
                    self.assertFalse(self.both(found[:index] + found[index + 1:]))
            if len(found) > 1:
                self.assertFalse(self.both(found[::-1]))
                self.assertFalse(self.both(found[1:] + found[:1]))
        self.assertGreater(answers.count(True), 50)
        self.assertGreater(answers.count(False), 50)

    def test_drawn_trees_of_parts(self):
        draw, answers = random.Random(55), []
        for _ in range(400):
            count = draw.randint(1, 4)
            ends = [[] for _ in range(count)]
            for k in range(count - 1):
                for part in (ends[k + 1], ends[draw.randrange(k + 1)]):
                    part.append((1, k))
            need = [max(0, 3 - len(part)) for part in ends]
            knots = draw.sample(range(10), 10)[:max(sum(need) + draw.randint(0, 2), 3)]
            knots = [sorted(knots).index(v) for v in knots]
            for v in knots:
                where = next((k for k, part in enumerate(ends) if len(part) < 3), draw.randrange(count))
                ends[where].append((0, v))
            told = []
            for part in ends:
                ties = drawn_ties(draw, len(part))
                told.append((slow_word(len(part), ties), tuple(sorted(part)), ties))
            told = tuple(sorted(told, key=lambda row: row[1]))
            answers.append(self.both(told))
            order = sorted(range(count - 1), key=lambda k: side_of(told, k))
            again = []
            for word, part, ties in told:
                named = [end if end[0] == 0 else (1, order.index(end[1])) for end in part]
                place = [sorted(named).index(end) for end in named]
                again.append((word, tuple(sorted(named)), tuple(sorted(
                    tuple(sorted((place[i], place[j]))) for i, j in ties))))
            answers.append(self.both(tuple(sorted(again, key=lambda row: row[1]))))
        self.assertGreater(answers.count(True), 50)
        self.assertGreater(answers.count(False), 50)

    def star(self, *ends, hub):
        """A part "star" with these ends, the one with the index `hub` being tied to the others."""
        return ("star", ends, tuple(sorted(tuple(sorted((hub, k))) for k in range(len(ends)) if k != hub)))

    def test_what_is_none(self):
        tied = ("tied", ((0, 0), (0, 1), (0, 2)), ((0, 1), (0, 2), (1, 2)))
        near = self.star((0, 0), (0, 1), (1, 0), hub=2)
        far = self.star((0, 2), (0, 3), (1, 0), hub=2)
        self.judged(True, are_parts, (tied,))
        self.judged(True, are_parts, (near, far))
        wrong = (
            (), tied, [tied], (tied, tied), (tied + (0,),), (tied[:2],), (list(tied),), (near,), (far,), (far, near),
            (near, far, tied), (("tied", (), ()),), (("star", ((0, 0),), ()),), (("unsplit", ((0, 0),), ()),),
            (("tied", ((0, 1),), ()),), (("tied", ((1, 0),), ()),), (("tied", ((0, 0), (0, 1)), ()),),
            (("star", ((0, 0), (0, 1)), ((0, 1),)),), (("tied", ((0, 0), (0, 0)), ((0, 1),)),),
            (("tied", ((0, 0), (0, 1), (0, 3)), ((0, 1), (0, 2), (1, 2))),),
            (("tied", ((0, 1), (0, 0), (0, 2)), ((0, 1), (0, 2), (1, 2))),),
            (("tied", ((0, 0), (0, 1), (0, 2)), ((0, 1), (1, 2), (0, 2))),),
            (("tied", ((0, 0), (0, 1), (0, 2)), ((0, 1), (0, 2), (2, 1))),),
            (("star", ((0, 0), (0, 1), (0, 2)), ((0, 1), (0, 2), (1, 2))),),
            (("tied", ((0, 0), (0, 1), (0, 2), (1, 0)), tuple(pairs_of(4))),),
            (("unsplit", tuple((0, v) for v in range(4)), PATH.ties),),
            (("unsplit", tuple((0, v) for v in range(5)), ROW.ties),),
            (("unsplit", tuple((0, v) for v in range(5)), ()),),
            (("tied", ((0, 0),), ()), ("tied", ((0, 1),), ())),
            (("tied", ((0, 0), (1, 0)), ((0, 1),)), ("tied", ((0, 1), (1, 0)), ((0, 1),))),
            # Markers and knots that are numbered with gaps, or stand too often.
            (self.star((0, 0), (0, 1), (1, 1), hub=2), self.star((0, 2), (0, 3), (1, 1), hub=2)),
            (self.star((0, 0), (0, 1), (1, 0), hub=2), self.star((0, 2), (0, 4), (1, 0), hub=2)),
            (self.star((0, 0), (0, 1), (1, 0), hub=2), self.star((0, 1), (0, 2), (1, 0), hub=2)),
            (self.star((0, 0), (0, 1), (2, 0), hub=2), self.star((0, 2), (0, 3), (2, 0), hub=2)),
            # Two markers in common, so no tree, and one that stands in no second part.
            (self.star((0, 0), (1, 0), (1, 1), hub=0), self.star((0, 1), (1, 0), (1, 1), hub=0)),
            (self.star((0, 0), (1, 0), (1, 1), hub=0), self.star((0, 1), (1, 0), (1, 2), hub=0)),
            # A marker in three parts and one in one; a knot in two parts.
            (self.star((0, 0), (0, 1), (1, 0), (1, 1), hub=0), self.star((0, 2), (0, 3), (1, 0), hub=2),
             self.star((0, 4), (0, 5), (1, 0), hub=2)),
            (self.star((0, 0), (0, 1), (1, 0), hub=2), self.star((0, 1), (0, 2), (0, 3), (1, 0), hub=3)),
            # A part beside the others, and two that go round.
            (tied, self.star((0, 3), (1, 0), (1, 1), hub=0), self.star((0, 4), (1, 0), (1, 1), hub=0)),
            (("tied", tuple((0, v) for v in range(11)), tuple(pairs_of(11))),),
            (("none", ((0, 0), (0, 1), (0, 2)), ((0, 1), (0, 2), (1, 2))),), (("tied",) * 3,),
            (("star", ((0, 0), (0, 2), (0, 1)), ((0, 1), (0, 2))),),
        )
        for value in wrong:
            self.judged(False, are_parts, value)
            self.refused(InvalidOperation, put_together, value)

    def test_eleven_knots(self):
        one = ("star", tuple((0, v) for v in range(6)) + ((1, 0),), tuple((0, v) for v in range(1, 7)))
        for count, answer in ((10, True), (11, False)):
            other = ("tied", tuple((0, v) for v in range(6, count)) + ((1, 0),), tuple(pairs_of(count - 5)))
            self.judged(answer, are_parts, (one, other))
        self.refused(InvalidOperation, put_together, (one, other))

    def test_wrong_kinds(self):
        for right in (ROW_PARTS, parts(ROUND), parts(Web(1, ())), parts(Web(2, ((0, 1),))), parts(full_web(4))):
            self.judged(True, are_parts, right)
            for value in bent(right):
                self.judged(False, are_parts, value)
            for value in bent(right, 10 ** 99):
                self.refused(InvalidOperation, put_together, value)
        for value in STRAYS:
            self.judged(False, are_parts, value)
            self.refused(InvalidOperation, put_together, value)
            self.judged(False, are_parts, (value,))
            self.judged(False, are_parts, ((value, value, value),))
            self.judged(False, are_parts, (("tied", value, ()),))
            self.judged(False, are_parts, (("tied", ((0, 0), (0, 1), (0, 2)), value),))
            self.judged(False, are_parts, (("tied", ((0, 0), value), ((0, 1),)),))


class Refusals(Case):

    def test_web(self):
        for value in NO_WEBS:
            for function in (good_splits, split_count, parts):
                self.refused(InvalidWeb, function, value)
            self.refused(InvalidWeb, do_cross, value, (0, 1), (0, 1))
            self.refused(InvalidWeb, do_cross, value, None, None)

    def test_webs_in_pieces(self):
        webs = list(webs_up_to(4)) + edge_webs() + [beside(ROUND, ROUND), beside(Web(1, ()), full_web(9))]
        for web in in_pieces(webs):
            for function in (good_splits, split_count, parts):
                self.refused(Refused, function, web, kept=("reason", ("pieces",)))
        self.judged(True, do_cross, Web(4, ()), (0, 1), (0, 2))

    def test_lots_that_cross(self):
        for value in NO_LOTS:
            self.refused(InvalidLot, do_cross, PATH, value, (0, 1))
            self.refused(InvalidLot, do_cross, PATH, (0, 1), value)
            self.refused(InvalidLot, do_cross, PATH, value, (0,))
            self.refused(InvalidLot, do_cross, PATH, (0,), value)
        for lot in lots(4):
            if lot != (0, 1):
                self.refused(InvalidOperation, do_cross, PATH, lot, (0, 1))
                self.refused(InvalidOperation, do_cross, PATH, (0, 1), lot)
        self.refused(InvalidOperation, do_cross, ROW, (3, 4), (0, 1))
        self.assertTrue(among((0, 1), splits(PATH)))


class NotTrue(Case):
    """[5.6]"""

    def test_splits_that_do_not_cross(self):
        self.same(good_splits(star_web(5)), ())
        self.judged(False, do_cross, star_web(5), (0, 1), (0, 1, 2))

    def test_two_parts_and_one_split(self):
        self.same([len(parts(PATH)), split_count(PATH)], [2, 1])

    def test_the_same_ends_but_not_kin(self):
        one, other = parts(WHEEL), parts(round_web(6))
        self.same([part[:2] for part in one], [part[:2] for part in other])
        self.assertIsNotNone(unlike_cut(WHEEL, round_web(6)))


if __name__ == "__main__":
    unittest.main()
