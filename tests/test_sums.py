"""Stage 14: kin or not [14.1] to [14.6], which is [0.16], and what [0.13] and [0.20] tell of kin webs."""

import random
import unittest
from itertools import combinations, permutations, product

from tests.helper import (
    PATH, ROUND, STAR, STRAYS, WHEEL, Case, all_webs, among, bent, drawn_web, drawn_webs, edge_webs, full_web,
    in_one_piece, joined, lots, path_web, round_web, slow_cut_rank, slow_kin, slow_pieces, slow_rank, slow_turned,
    star_web, webs_up_to)
from tests.test_webs import NO_WEBS
from tiedanew.errors import InvalidOperation, InvalidWeb
from tiedanew.kin.sums import (
    are_kin, is_good, is_kin_or_bar, is_member, is_member_basis, kin_or_bar, member_basis)
from tiedanew.web.cuts import cut_ranks
from tiedanew.web.webs import Web, beside, lot_web, renamed, turned, turned_by

WAY = PATH
CROSS = Web(4, ((0, 2), (1, 2), (1, 3)))
MEMBER = ((1, 1, 0, 1), (1, 0, 1, 1), (1, 1, 0, 1), (1, 0, 0, 1))
QUADRUPLES = list(product((0, 1), repeat=4))
GOOD = [(a, b, c, d) for a, b, c, d in QUADRUPLES if (a * d + b * c) % 2]
PAIRS = [(one, other) for many in (1, 2) for one in all_webs(many) for other in all_webs(many)] + [
    pair for k, pair in enumerate(product(all_webs(3), repeat=2)) if k % 7 == 0 or pair[0] == pair[1]]
GREAT = drawn_webs(40, seed=1401) + edge_webs() + [
    WHEEL, turned(WHEEL, 2), beside(ROUND, STAR), beside(PATH, WHEEL), round_web(8),
    beside(Web(2, ((0, 1),)), beside(PATH, path_web(3)))]
NO_MEMBERS = STRAYS + (
    ((1, 0, 0),), ((1, 0, 0, 1, 0),), ((1, 0, 0, 2),), ((1, 0, 0, True),), ((False, 0, 0, 0),), ([1, 0, 0, 1],),
    [(1, 0, 0, 1)], ("1001",), (1, 0, 0, 1), ((1, 0, 0, None),), ((1, 0, 0, -1),), ((1, 0, 0, 10 ** 60),),
    ((1, 0, 0, 1), None), ((1, 0, 0, 1), (1, 0, 0)), ((1, 0, 0, 1),) * 11, ((1, 0, 0, 1),) * 12, {0: (1, 0, 0, 1)},
    (((1, 0, 0, 1),),), ((Web(1, ()), 0, 0, 1),), ("1001", "1001"))


def slow_is_member(one, other, value):
    """All sums of [14.2], knot by knot."""
    for j in range(one.knots):
        for k in range(one.knots):
            total = value[k][0] * joined(one, j, k) + value[j][1] * (j == k) + value[j][3] * joined(other, j, k)
            total += sum(value[i][2] for i in range(one.knots) if joined(one, i, j) and joined(other, i, k))
            if total % 2:
                return False
    return True


def full_lot(web):
    """All strings of the web's full lot, a pair (z, x) of bits for each knot."""
    rows = [tuple((int(joined(web, v, k)), int(v == k)) for k in range(web.knots)) for v in range(web.knots)]
    found = set()
    for pick in product((0, 1), repeat=web.knots):
        picked = [row for row, bit in zip(rows, pick) if bit]
        found.add(tuple((sum(row[k][0] for row in picked) % 2, sum(row[k][1] for row in picked) % 2)
                        for k in range(web.knots)))
    return found


def led(member, string):
    return tuple(((a * z + b * x) % 2, (c * z + d * x) % 2) for (a, b, c, d), (z, x) in zip(member, string))


def do_lead(one, other, member):
    """Whether each string of the one's full lot is led to one of the other's."""
    goal = full_lot(other)
    return all(led(member, string) in goal for string in full_lot(one))


def bits_of(member):
    return [(a * d + b * c) % 2 for a, b, c, d in member]


def sum_of(members, many):
    """The sum of members, quadruple by quadruple."""
    return tuple(tuple(sum(member[k][at] for member in members) % 2 for at in range(4)) for k in range(many))


def span_of(basis, many):
    return {sum_of(pick, many) for size in range(len(basis) + 1) for pick in combinations(basis, size)}


def slow_dimension(one, other):
    """4 n less the rank of all sums, one put to another till first members are apart."""
    heads = {}
    for j in range(one.knots):
        for k in range(one.knots):
            row = {(i, "c") for i in range(one.knots) if joined(one, i, j) and joined(other, i, k)}
            row ^= {(k, "a")} if joined(one, j, k) else set()
            row ^= {(j, "b")} if j == k else set()
            row ^= {(j, "d")} if joined(other, j, k) else set()
            while row and min(row) in heads:
                row ^= heads[min(row)]
            if row:
                heads[min(row)] = row
    return 4 * one.knots - len(heads)


def drawn_kin(draw, web, many=25):
    return turned_by(web, tuple(draw.randrange(web.knots) for _ in range(many)))


def drawn_renamed(draw, web):
    return renamed(web, tuple(draw.sample(range(web.knots), web.knots)))


class Examples(Case):

    def test_kin(self):
        other = turned(WAY, 1)
        self.same([other.ties, are_kin(WAY, other), are_kin(WAY, CROSS), kin_or_bar(WAY, other)[0]], [
            ((0, 1), (0, 2), (1, 2), (2, 3)), True, False, "turns"])

    def test_members(self):
        other = turned(WAY, 1)
        self.same([is_member(WAY, other, MEMBER), is_good(MEMBER), is_member(WAY, WAY, MEMBER)], [True, True, False])
        self.same([len(member_basis(WAY, other)), member_basis(WAY, CROSS)], [4, ()])

    def test_papers(self):
        self.judged(True, is_kin_or_bar, WAY, CROSS, ("none", (0, 1, 2, 3), ()))
        self.judged(True, is_kin_or_bar, WAY, CROSS, ("cut", (1, 3)))
        self.judged(True, is_kin_or_bar, WAY, turned(WAY, 1), ("turns", (1,)))


class Members(Case):

    def test_all_tuples_of_quadruples(self):
        """A member EXACTLY IF it leads each string of the one's full lot to a string of the other's [14.2]."""
        for one, other in PAIRS:
            lot, goal = full_lot(one), full_lot(other)
            right = set()
            for value in product(QUADRUPLES, repeat=one.knots):
                leads = all(led(value, string) in goal for string in lot)
                self.judged(leads, is_member, one, other, value)
                if leads:
                    right.add(value)
            basis = self.told(member_basis, one, other)
            self.assertEqual(span_of(basis, one.knots), right)
            self.assertEqual(2 ** len(basis), len(right))

    def test_all_tuples_by_their_sums(self):
        draw = random.Random(1402)
        for one, other in PAIRS:
            for _ in range(60):
                value = tuple(draw.choice(QUADRUPLES) for _ in range(one.knots))
                self.judged(slow_is_member(one, other, value), is_member, one, other, value)

    def test_great_webs(self):
        draw, sizes = random.Random(1403), set()
        for web in GREAT:
            for other in (drawn_kin(draw, web), drawn_renamed(draw, web), drawn_web(draw, web.knots)):
                basis = self.told(member_basis, web, other)
                sizes.add(len(basis))
                self.assertEqual(len(basis), slow_dimension(web, other))
                self.judged(True, is_member_basis, web, other, basis)
                for member in basis:
                    self.assertTrue(slow_is_member(web, other, member))
                    self.judged(True, is_member, web, other, member)
                for _ in range(3):
                    pick = [member for member in basis if draw.random() < 0.5]
                    value = sum_of(pick, web.knots)
                    self.judged(True, is_member, web, other, value)
                    knot, at = draw.randrange(web.knots), draw.randrange(4)
                    row = list(value[knot])
                    row[at] ^= 1
                    value = value[:knot] + (tuple(row),) + value[knot + 1:]
                    self.judged(slow_is_member(web, other, value), is_member, web, other, value)
                if web.knots <= 5:
                    self.assertTrue(all(do_lead(web, other, member) for member in basis))
        self.assertGreater(len(sizes), 4)

    def test_noughts_and_sums(self):
        for one, other in PAIRS[::3]:
            noughts = ((0, 0, 0, 0),) * one.knots
            self.judged(True, is_member, one, other, noughts)
            members = list(span_of(member_basis(one, other), one.knots))[:12]
            for first, second in product(members, repeat=2):
                self.judged(True, is_member, one, other, sum_of((first, second), one.knots))

    def test_no_members(self):
        for value in NO_MEMBERS:
            for web in (Web(1, ()), Web(2, ((0, 1),)), WAY, Web(10, ())):
                self.judged(False, is_member, web, web, value)
            self.judged(False, is_good, value)
        for value in bent(MEMBER):
            self.judged(False, is_member, WAY, turned(WAY, 1), value)
            self.judged(False, is_good, value)
        for many in (3, 5):
            self.judged(False, is_member, WAY, WAY, ((0, 0, 0, 0),) * many)

    def test_good(self):
        for value in QUADRUPLES:
            self.judged(value in GOOD, is_good, (value,))
            for other in QUADRUPLES:
                self.judged(value in GOOD and other in GOOD, is_good, (value, other))
        self.assertEqual(len(GOOD), 6)
        for many in range(1, 13):
            self.judged(many <= 10, is_good, (GOOD[many % 6],) * many)
        self.judged(False, is_good, (GOOD[0],) * 9 + ((1, 1, 1, 1),))
        self.judged(False, is_good, ())


class Bases(Case):

    def slow_is_basis(self, one, other, value):
        """Each member is the sum of just one pick: they are members, unlike all sums, and as many as need be."""
        if not all(slow_is_member(one, other, member) for member in value):
            return False
        return len(span_of(value, one.knots)) == 2 ** len(value) and len(value) == slow_dimension(one, other)

    def test_other_bases(self):
        draw = random.Random(1404)
        for one, other in PAIRS[::2] + [(WAY, turned(WAY, 1)), (STAR, STAR), (ROUND, drawn_kin(draw, ROUND))]:
            basis = member_basis(one, other)
            for order in list(permutations(basis))[:8]:
                self.judged(True, is_member_basis, one, other, order)
            members = list(span_of(basis, one.knots))
            for _ in range(25):
                value = tuple(draw.choice(members) for _ in basis)
                self.judged(self.slow_is_basis(one, other, value), is_member_basis, one, other, value)
            if basis:
                for value in (basis[1:], basis[:-1], basis + basis[:1], basis[1:] + basis[1:2], (), basis[1:] + (
                        ((0, 0, 0, 0),) * one.knots,), basis[1:] + (sum_of(basis[1:], one.knots),)):
                    self.judged(False, is_member_basis, one, other, value)

    def test_noughts_alone(self):
        noughts = ((0, 0, 0, 0),) * 4
        self.judged(True, is_member_basis, WAY, CROSS, ())
        for value in (None, [], {}, ((),), (noughts,), noughts, (MEMBER,), False, 0, ""):
            self.judged(False, is_member_basis, WAY, CROSS, value)

    def test_wrong_values(self):
        other = turned(WAY, 1)
        right = member_basis(WAY, other)
        self.judged(True, is_member_basis, WAY, other, right)
        wrong = STRAYS + NO_MEMBERS + tuple(bent(right)) + (
            right[0], list(right), (right,), right[:3] + (MEMBER[:3],), right[:3] + (None,),
            right[:3] + (((1, 0, 0, 1),) * 4,))
        for value in wrong:
            self.judged(False, is_member_basis, WAY, other, value)
        for value in product(QUADRUPLES, repeat=3):
            if not slow_is_member(Web(1, ()), Web(1, ()), value[:1]):
                self.judged(False, is_member_basis, Web(1, ()), Web(1, ()), tuple((each,) for each in value))


class OneBit(Case):

    def test_the_same_at_all_knots(self):
        """In each member to a web in one piece [14.3]; it may be led from any web."""
        draw = random.Random(1405)
        webs = in_one_piece(list(webs_up_to(4)) + GREAT)
        for other in webs[::2] + [WAY, STAR]:
            for one in (drawn_kin(draw, other), drawn_web(draw, other.knots), drawn_renamed(draw, other)):
                basis = member_basis(one, other)
                for size in (1, 2, 3):
                    for pick in list(combinations(basis, size))[:20]:
                        self.assertEqual(len(set(bits_of(sum_of(pick, one.knots)))), 1)

    def test_two_at_once(self):
        """All have the bit 0 EXACTLY IF each of a basis has it, and each sum of two [14.4]."""
        draw, found = random.Random(1406), set()
        for other in in_one_piece(list(webs_up_to(4)))[::2] + [ROUND, STAR, WAY, CROSS]:
            for one in (drawn_kin(draw, other), drawn_web(draw, other.knots), drawn_renamed(draw, other)):
                basis = member_basis(one, other)
                few = [sum_of(pick, one.knots) for size in (1, 2) for pick in combinations(basis, size)]
                none = all(1 not in bits_of(member) for member in few)
                self.assertEqual(none, all(1 not in bits_of(member) for member in span_of(basis, one.knots)))
                found.add(none)
                self.assertEqual(not none, other.ties in slow_kin(one))
        self.assertEqual(found, {True, False})


class EitherOr(Case):

    def asked(self, one, other):
        """Asks for turns or a bar, and looks at it; its word."""
        paper = self.told(kin_or_bar, one, other)
        self.judged(True, is_kin_or_bar, one, other, paper)
        self.judged(paper[0] == "turns", are_kin, one, other)
        if paper[0] == "turns":
            self.assertLessEqual(len(paper[1]), 200)
            web = one
            for knot in paper[1]:
                web = slow_turned(web, knot)
            self.assertEqual((web, len(paper)), (other, 2))
        elif paper[0] == "cut":
            self.assertEqual(list(paper[1]), sorted(set(paper[1])))
            self.assertNotEqual(slow_cut_rank(one, paper[1]), slow_cut_rank(other, paper[1]))
        else:
            word, lot, members = paper
            self.assertEqual(word, "none")
            self.assertIn(lot, slow_pieces(one))
            self.assertIn(lot, slow_pieces(other))
            webs = lot_web(one, lot), lot_web(other, lot)
            self.assertEqual(len(members), slow_dimension(*webs))
            self.assertTrue(all(slow_is_member(*webs, member) for member in members))
            self.assertEqual(slow_rank(tuple(sum(member, ()) for member in members)), len(members))
            few = [sum_of(pick, len(lot)) for size in (1, 2) for pick in combinations(members, size)]
            self.assertTrue(all(1 not in bits_of(member) for member in few))
        return paper[0]

    def test_all_pairs_of_small_webs(self):
        """By turning again and again."""
        for many in (1, 2, 3, 4):
            webs = list(all_webs(many))
            for one in webs[::5 if many == 4 else 1]:
                kin = slow_kin(one)
                for other in webs:
                    self.assertEqual(self.asked(one, other) == "turns", other.ties in kin)

    def test_five_knots(self):
        draw = random.Random(1407)
        webs, words = list(all_webs(5)), []
        for one in [ROUND, star_web(5), path_web(5), full_web(5)] + webs[::97]:
            kin = slow_kin(one)
            others = [Web(5, ties) for ties in list(kin)[::9]] + [drawn_renamed(draw, one) for _ in range(5)]
            for other in others + webs[::67]:
                words.append(self.asked(one, other))
                self.assertEqual(words[-1] == "turns", other.ties in kin)
        self.assertEqual(set(words), {"turns", "cut", "none"})

    def test_great_webs(self):
        draw, words = random.Random(1408), []
        for web in GREAT:
            self.assertEqual(self.asked(web, drawn_kin(draw, web)), "turns")
            self.assertEqual(self.asked(web, web), "turns")
            others = [drawn_renamed(draw, web), drawn_renamed(draw, drawn_kin(draw, web)), drawn_web(draw, web.knots)]
            for other in others:
                words.append(self.asked(web, other))
                if cut_ranks(web) != cut_ranks(other):
                    self.assertNotEqual(words[-1], "turns")
        self.assertEqual(set(words), {"turns", "cut", "none"})

    def test_several_pieces(self):
        """Kin EXACTLY IF the pieces are the same lots, and the webs of each are kin."""
        draw, words = random.Random(1409), set()
        some = [Web(1, ()), Web(2, ((0, 1),)), path_web(3), full_web(3), WAY, CROSS, STAR, turned(WAY, 1), ROUND]
        for first, second, third, fourth in [tuple(draw.choice(some) for _ in range(4)) for _ in range(250)]:
            if first.knots + second.knots == third.knots + fourth.knots:
                order = tuple(draw.sample(range(first.knots + second.knots), first.knots + second.knots))
                one, other = (renamed(web, order) for web in (beside(first, second), beside(third, fourth)))
                kin = slow_pieces(one) == slow_pieces(other) and all(
                    lot_web(other, lot).ties in slow_kin(lot_web(one, lot)) for lot in slow_pieces(one))
                words.add(self.asked(one, other))
                self.judged(kin, are_kin, one, other)
        self.assertEqual(words, {"turns", "cut", "none"})
        for one, other in ((beside(WAY, WAY), beside(WAY, CROSS)), (beside(WAY, STAR), beside(CROSS, STAR))):
            lot = (4, 5, 6, 7) if one != beside(WAY, STAR) else (0, 1, 2, 3)
            self.judged(True, is_kin_or_bar, one, other, ("none", lot, ()))
            self.judged(False, is_kin_or_bar, one, other, ("none", (0, 1, 2, 3) if lot[0] else (4, 5, 6, 7), ()))
            self.judged(False, is_kin_or_bar, one, other, ("none", tuple(range(8)), ()))

    def test_edges(self):
        self.assertEqual(self.asked(Web(1, ()), Web(1, ())), "turns")
        self.assertNotEqual(self.asked(Web(2, ()), Web(2, ((0, 1),))), "turns")
        self.assertNotEqual(self.asked(Web(10, ()), full_web(10)), "turns")
        self.assertEqual(self.asked(full_web(10), star_web(10)), "turns")
        self.assertEqual(self.asked(round_web(10), drawn_kin(random.Random(1), round_web(10), 200)), "turns")

    def test_kin_exactly_if_letters_can_be_exchanged(self):
        """At each place X, Y, Z are exchanged [0.20]."""
        exchanges = [dict(zip(((0, 0), (1, 0), (0, 1), (1, 1)), ((0, 0),) + images))
                     for images in permutations(((1, 0), (0, 1), (1, 1)))]
        for many in (1, 2, 3):
            for one, other in list(product(all_webs(many), repeat=2))[::2]:
                lot, goal = full_lot(one), full_lot(other)
                some = any({tuple(change[letter] for change, letter in zip(changes, string)) for string in lot} == goal
                           for changes in product(exchanges, repeat=many))
                self.judged(some, are_kin, one, other)

    def test_ranks_stay(self):
        """[0.13]: unlike cut ranks bar."""
        draw = random.Random(1410)
        for web in GREAT[::3]:
            other = drawn_kin(draw, web)
            for lot in [tuple(v for v in range(web.knots) if draw.random() < 0.5) for _ in range(8)]:
                self.assertEqual(slow_cut_rank(web, lot), slow_cut_rank(other, lot))
                self.judged(False, is_kin_or_bar, web, other, ("cut", lot))


class Judge(Case):

    def test_all_short_rows(self):
        for one, other in ((WAY, turned(WAY, 1)), (WAY, WAY), (STAR, full_web(4)), (WAY, CROSS)):
            for size in range(4):
                for row in product(range(-1, 5), repeat=size):
                    right = all(0 <= v < 4 for v in row) and turned_by(one, row) == other
                    self.judged(right, is_kin_or_bar, one, other, ("turns", row))

    def test_200_turns_and_201(self):
        for web in (WAY, Web(1, ()), full_web(10)):
            for many in (0, 2, 199, 200, 201, 202):
                right = many <= 200 and turned_by(web, (0,) * (many % 2)) == web
                self.judged(right, is_kin_or_bar, web, web, ("turns", (0,) * many))

    def test_all_lots(self):
        for one, other in ((WAY, CROSS), (WAY, STAR), (Web(4, ()), WAY), (beside(WAY, WAY), beside(WAY, CROSS))):
            for lot in lots(one.knots):
                right = slow_cut_rank(one, lot) != slow_cut_rank(other, lot)
                self.judged(right, is_kin_or_bar, one, other, ("cut", lot))

    def test_other_bases(self):
        """All of whose members, and sums of two, have the bit 0."""
        draw, found = random.Random(1411), 0
        webs = in_one_piece(all_webs(5))
        for one, other in [(draw.choice(webs), draw.choice(webs)) for _ in range(300)]:
            basis = member_basis(one, other)
            if basis:
                right = other.ties not in slow_kin(one)
                found += right
                others = basis[1:] + (sum_of(basis, 5),)
                for value in (basis, basis[::-1], others):
                    self.judged(right, is_kin_or_bar, one, other, ("none", (0, 1, 2, 3, 4), value))
                for value in (basis[1:], (), basis + basis[:1], others[1:]):
                    self.judged(False, is_kin_or_bar, one, other, ("none", (0, 1, 2, 3, 4), value))
        self.assertGreater(found, 20)

    def test_a_piece_of_both(self):
        """A lot that is a piece of just one of them, or of none, is none, whatever basis is told."""
        tried = 0
        for one, other in list(product(all_webs(3), repeat=2)) + [(WAY, Web(4, ((0, 1), (2, 3)))), (Web(4, ()), STAR)]:
            for lot in lots(one.knots, 1):
                if lot not in slow_pieces(one) or lot not in slow_pieces(other):
                    basis = member_basis(lot_web(one, lot), lot_web(other, lot))
                    few = [sum_of(pick, len(lot)) for size in (1, 2) for pick in combinations(basis, size)]
                    tried += all(1 not in bits_of(member) for member in few)
                    self.judged(False, is_kin_or_bar, one, other, ("none", lot, basis))
        self.assertGreater(tried, 10)

    def test_bases_of_kin_webs_bar_nothing(self):
        """A basis without a good one does not bar, if a sum of two is good."""
        other = turned(WAY, 1)
        members = [member for member in span_of(member_basis(WAY, other), 4) if 1 not in bits_of(member)]
        bases = [value for value in combinations(members, 4) if is_member_basis(WAY, other, value)]
        self.assertTrue(bases)
        for value in bases[:50]:
            self.judged(False, is_kin_or_bar, WAY, other, ("none", (0, 1, 2, 3), value))

    def test_wrong_papers(self):
        other = turned(WAY, 1)
        papers = (
            (WAY, other, ("turns", (1,))), (WAY, CROSS, ("cut", (1, 3))), (WAY, CROSS, ("none", (0, 1, 2, 3), ())))
        for one, goal, right in papers:
            self.judged(True, is_kin_or_bar, one, goal, right)
            wrong = STRAYS + tuple(bent(right)) + (
                ("turns",), ("cut",), ("none",), ("none", (0, 1, 2, 3)), ("turns", (1,), ()), ("cut", (1, 3), ()),
                right[1:], right[::-1], right + (0,), list(right), (right,), ("turns", [1]), ("cut", [1, 3]),
                ("cut", ()),
                ("cut", (0, 1, 2, 3)), ("cut", (3, 1)), ("cut", (1, 1)), ("cut", (1, 4)), ("none", (0, 1, 2), ()),
                ("none", (), ()), ("none", (0, 1, 2, 3), None), ("none", (0, 1, 2, 3), []), ("none", (3, 2, 1, 0), ()),
                ("none", (0, 1, 2, 3), ((),)), ("none", (0, 1, 2, 3), (MEMBER,)), ("none", None, ()), ("turns", (4,)),
                ("turns", (True,)), ("kin", (1,)), ("turns", ()), ("turns", None), ("cut", None), ("turns", (0,)),
                ("cut", (0, 3)), ("cut", (1, 2)), ("cut", (0,)))
            for value in wrong:
                if not among(value, [right, ("turns", (1,)) if goal == other else right]):
                    self.judged(False, is_kin_or_bar, one, goal, value)
        self.judged(False, is_kin_or_bar, WAY, WAY, ("none", (0, 1, 2, 3), ()))
        self.judged(False, is_kin_or_bar, WAY, WAY, ("none", (0, 1, 2, 3), member_basis(WAY, WAY)))


class Refusals(Case):

    CALLS = ((are_kin, ()), (kin_or_bar, ()), (member_basis, ()), (is_member, (MEMBER,)), (is_member, (None,)),
             (is_member_basis, ((),)), (is_kin_or_bar, (("turns", ()),)), (is_kin_or_bar, (None,)))

    def test_webs(self):
        for value in NO_WEBS:
            for function, more in self.CALLS:
                self.refused(InvalidWeb, function, value, WAY, *more)
                self.refused(InvalidWeb, function, WAY, value, *more)
                self.refused(InvalidWeb, function, value, value, *more)

    def test_unlike_numbers_of_knots(self):
        for one, other in ((WAY, ROUND), (Web(1, ()), Web(2, ())), (Web(10, ()), Web(9, ()))):
            for function, more in self.CALLS:
                self.refused(InvalidOperation, function, one, other, *more)
                self.refused(InvalidOperation, function, other, one, *more)


class NotTrue(Case):
    """[14.6]"""

    def test_a_basis_without_a_good_member(self):
        members = [member for member in span_of(member_basis(WAY, WAY), 4) if 1 not in bits_of(member)]
        bases = [value for value in combinations(members, 4) if is_member_basis(WAY, WAY, value)]
        self.assertTrue(bases)
        self.judged(True, are_kin, WAY, WAY)

    def test_a_member_and_yet_not_kin(self):
        one, other = Web(3, ((0, 1),)), path_web(3)
        self.assertTrue(member_basis(one, other))
        self.judged(False, are_kin, one, other)

    def test_unlike_bits_in_several_pieces(self):
        value = ((1, 0, 0, 1), (0, 0, 0, 0))
        self.judged(True, is_member, Web(2, ()), Web(2, ()), value)
        self.assertEqual(bits_of(value), [1, 0])


if __name__ == "__main__":
    unittest.main()
