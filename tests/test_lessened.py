"""Stage 20: counts [20.1] to [20.8]."""

import random
import unittest
from itertools import product

from tests.helper import (
    PATH, ROUND, STAR, STRAYS, WHEEL, Case, all_webs, drawn_web, drawn_webs, edge_webs, full_web, is_knot,
    joined, lots, path_web, round_web, slow_behind, slow_kin, slow_left_out, slow_near, slow_rank, slow_turned,
    star_web, webs_up_to)
from tests.test_cuts import NO_LOTS
from tests.test_sums import drawn_kin
from tests.test_webs import NO_WEBS
from tiedanew.count import lessened as module
from tiedanew.count.lessened import (
    choice_counts, choice_nullity, choice_value, even_lots, free_choices, lessened, lessened_thrice, lot_counts,
    lot_nullity, lot_value)
from tiedanew.errors import InvalidLot, InvalidNumber, InvalidOperation, InvalidWeb, Refused, TooMany
from tiedanew.kin.classes import choice_count, kin_count, self_count
from tiedanew.kin.members import are_free
from tiedanew.lesser.twigs import grown
from tiedanew.web.webs import Web, beside, swung

ROW = Web(3, ((0, 1), (1, 2)))
SMALL = list(webs_up_to(4))
SOME = SMALL[::2] + list(all_webs(5))[::41] + [ROUND, path_web(5)]
GREAT = drawn_webs(25, least=6, seed=2001) + edge_webs() + [WHEEL, round_web(8)]
EIGHT = [web for web in GREAT if web.knots <= 8]
NUMBERS = (-3, -2, -1, 0, 1, 2, 3, 4, 5, 10 ** 59, -10 ** 59)


def slow_nullity(web, choices):
    """How many knots are in, less the rank of the table, with 1 at equal places of loops, by all sums of its rows."""
    knots = [v for v in range(web.knots) if choices[v]]
    return len(knots) - slow_rank(tuple(tuple(
        int(choices[v] == 2) if v == w else int(joined(web, v, w)) for w in knots) for v in knots))


def heads_nullity(web, choices):
    """The same by rows put to one another till their heads are apart."""
    knots = [v for v in range(web.knots) if choices[v]]
    heads = {}
    for v in knots:
        row = {w for w in slow_near(web, v) if w in knots} | ({v} if choices[v] == 2 else set())
        while row and min(row) in heads:
            row = row ^ heads[min(row)]
        if row:
            heads[min(row)] = row
    return len(knots) - len(heads)


def slow_counts(web, ways, nullity=slow_nullity):
    found = [nullity(web, choices) for choices in product(range(ways), repeat=web.knots)]
    return tuple(found.count(k) for k in range(web.knots + 1))


def folded(one, other):
    found = [0] * (len(one) + len(other) - 1)
    for i, first in enumerate(one):
        for j, second in enumerate(other):
            found[i + j] += first * second
    return tuple(found)


def put_together(rows):
    return tuple(map(sum, zip(*rows)))


def power(base, many):
    found = 1
    for _ in range(many):
        found *= base
    return found


def slow_value(counts, base):
    return sum(count * power(base, k) for k, count in enumerate(counts))


class Examples(Case):

    def test_counts(self):
        self.same([lot_counts(ROW), choice_counts(ROW), lot_counts(slow_turned(ROW, 1)), choice_counts(ROUND)], [
            (3, 4, 1, 0), (16, 10, 1, 0), (4, 4, 0, 0), (132, 96, 15, 0, 0, 0)])

    def test_lessened(self):
        self.same([[web.ties for web in lessened(ROW, 0, 1)], [web.ties for web in lessened_thrice(ROUND, 0, 1)]], [
            [((0, 1),), ()],
            [((0, 1), (1, 2), (2, 3)), ((0, 1), (0, 3), (1, 2), (2, 3)), ((0, 3), (1, 2), (1, 3), (2, 3))]])
        self.refused(Refused, lessened, ROW, 0, 2, kept=("reason", ("untied",)))

    def test_values(self):
        self.same([lot_value(ROUND, -1), lot_value(ROUND, 3), choice_value(ROUND, 2), choice_value(ROUND, 4)], [
            -1, 63, 132, 384])
        self.same([even_lots(ROW), free_choices(Web(2, ((0, 1),))), choice_nullity(ROW, (2, 1, 0))], [
            ((), (0,), (0, 2), (1,), (2,)), ((0, 0), (0, 2), (1, 1), (1, 2), (2, 0), (2, 1)), 0])

    def test_constants(self):
        self.same([module.MOST_CHOSEN, module.MOST_FREE], [8, 6])


class Nullities(Case):
    """[20.1]"""

    def test_all_lots_and_choices(self):
        for web in SOME:
            for lot in lots(web.knots):
                self.same(self.told(lot_nullity, web, lot), slow_nullity(web,
                    [int(v in lot) for v in range(web.knots)]))
            for choices in product(range(3), repeat=web.knots):
                self.same(choice_nullity(web, choices), slow_nullity(web, choices))

    def test_great_webs(self):
        draw = random.Random(2002)
        for web in GREAT:
            for _ in range(6):
                choices = tuple(draw.randrange(3) for _ in range(web.knots))
                self.same(self.told(choice_nullity, web, choices), slow_nullity(web, choices))
                lot = tuple(v for v in range(web.knots) if choices[v])
                self.same(lot_nullity(web, lot), slow_nullity(web, [min(1, choice) for choice in choices]))

    def test_edges(self):
        self.same([lot_nullity(PATH, ()), lot_nullity(Web(10, ()), tuple(range(10)))], [0, 10])
        self.same([choice_nullity(Web(10, ()), (choice,) * 10) for choice in range(3)], [0, 10, 0])


class Counts(Case):
    """[20.2]"""

    def test_by_all_lots_and_choices(self):
        for web in SMALL + SOME:
            self.same(self.told(lot_counts, web), slow_counts(web, 2))
            self.same(self.told(choice_counts, web), slow_counts(web, 3))

    def test_great_webs(self):
        for web in GREAT:
            self.same(lot_counts(web), slow_counts(web, 2, heads_nullity))
        for web in drawn_webs(6, least=6, most=7, seed=2003) + [WHEEL]:
            self.same(choice_counts(web), slow_counts(web, 3, heads_nullity))

    def test_eight_knots(self):
        for web in drawn_webs(2, least=8, most=8, seed=2004):
            self.same(choice_counts(web), slow_counts(web, 3, heads_nullity))

    def test_without_ties(self):
        self.same(lot_counts(Web(4, ())), (1, 4, 6, 4, 1))
        self.same(choice_counts(Web(4, ())), (16, 32, 24, 8, 1))
        self.same([sum(lot_counts(web)) for web in GREAT], [2 ** web.knots for web in GREAT])
        self.same([sum(choice_counts(web)) for web in EIGHT], [3 ** web.knots for web in EIGHT])


class Lessened(Case):
    """[20.3]"""

    def test_by_turns(self):
        for web in SMALL + GREAT:
            for low, high in web.ties[:7]:
                for knot, other in ((low, high), (high, low)):
                    three = [slow_left_out(slow_behind(web, [("turn", v) for v in row]), knot)
                             for row in ((), (knot,), (knot, other, knot))]
                    self.assertEqual(self.told(lessened, web, knot, other), (three[0], three[2]))
                    self.assertEqual(self.told(lessened_thrice, web, knot, other), tuple(three))

    def test_counts_are_summed(self):
        for web in SMALL + GREAT[::2]:
            for knot, other in web.ties[::3]:
                self.same(lot_counts(web), put_together([lot_counts(each) for each in lessened(web, knot,
                    other)]) + (0,))
                if web.knots <= 8:
                    three = lessened_thrice(web, knot, other)
                    self.same(choice_counts(web), put_together([choice_counts(each) for each in three]) + (0,))

    def test_nullities_of_lots(self):
        """A lot with v has the nullity of one of U without v."""
        for web in SOME:
            for v, w in web.ties[:3]:
                with_v = sorted(lot_nullity(web, lot) for lot in lots(web.knots) if v in lot)
                without = lessened(web, v, w)[1]
                self.assertEqual(with_v, sorted(lot_nullity(without, lot) for lot in lots(without.knots)))


class Kept(Case):
    """[20.4]"""

    def test_swings_and_turns(self):
        draw = random.Random(2005)
        for web in SOME + EIGHT:
            for v, w in web.ties[:4]:
                self.same(lot_counts(swung(web, v, w)), lot_counts(web))
            for knot in range(web.knots):
                self.same(choice_counts(slow_turned(web, knot)), choice_counts(web))
            self.same(choice_counts(drawn_kin(draw, web)), choice_counts(web))

    def test_beside_one_another(self):
        for one, other in ((PATH, STAR), (ROUND, ROW), (Web(1, ()), full_web(4)), (Web(2, ((0, 1),)), WHEEL)):
            both = beside(one, other)
            self.same(lot_counts(both), folded(lot_counts(one), lot_counts(other)))
            if both.knots <= 8:
                self.same(choice_counts(both), folded(choice_counts(one), choice_counts(other)))


class Values(Case):
    """[20.5]"""

    def test_by_their_sums(self):
        for web in SMALL + GREAT:
            for number in NUMBERS:
                self.same(lot_value(web, number), slow_value(lot_counts(web), number - 1))
                if web.knots <= 8:
                    self.same(choice_value(web, number), slow_value(choice_counts(web), number - 2))
        self.told(lot_value, PATH, 7)
        self.told(choice_value, PATH, 7)

    def test_at_told_numbers(self):
        for web in SMALL + GREAT:
            many = web.knots
            self.same(lot_value(web, 2), 2 ** many)
            t = choice_nullity(web, (2,) * many)
            self.same(lot_value(web, -1), (-1) ** many * (-2) ** t)
            self.assertEqual(lot_value(web, 3) % lot_value(web, -1), 0)
            if many <= 8:
                self.same([choice_value(web, number) for number in (0, 3, 4)], [
                    0, 3 ** many, 2 ** many * len(even_lots(web))])

    def test_even_lots(self):
        for web in SMALL + GREAT:
            right = [lot for lot in lots(web.knots) if all(
                len([w for w in lot if joined(web, v, w)]) % 2 == 0 for v in lot)]
            self.same(self.told(even_lots, web), tuple(sorted(right)))
        self.same(even_lots(Web(1, ())), ((), (0,)))


class Grown(Case):
    """[20.6]"""

    def test_twigs_and_twins(self):
        for web in [web for web in SMALL + GREAT if 1 < web.knots < 10]:
            for v in range(web.knots)[:4]:
                for x in (-2, 0, 1, 2, 3, 7):
                    a, b = lot_value(web, x), lot_value(slow_left_out(web, v), x)
                    self.same([lot_value(grown(web, word, v), x) for word in ("leaf", "untied", "tied")], [
                        a + x * b, (1 + x) * a - x * b, 2 * a])


class Free(Case):
    """[20.7]"""

    def test_free_exactly_if_a_web_comes_of_the_letters(self):
        for web in SMALL + SOME + [web for web in EIGHT if web.knots == 6]:
            right = tuple(choices for choices in product(range(3), repeat=web.knots)
                          if heads_nullity(web, choices) == 0)
            self.same(self.told(free_choices, web), right)
            for choices in list(product(range(3), repeat=web.knots))[::1 if web.knots < 4 else 7]:
                letters = "".join("ZXY"[choice] for choice in choices)
                self.judged(choices in right, are_free, web, letters)

    def test_the_choice_value_at_2(self):
        for web in SMALL + EIGHT:
            count = choice_value(web, 2)
            self.same(count, choice_count(web))
            self.same(count // self_count(web), kin_count(web))
            if web.knots <= 6:
                self.same(len(free_choices(web)), count)
        for web in SOME[::3]:
            self.same(choice_value(web, 2) // self_count(web), len(slow_kin(web)))


class Refusals(Case):

    def test_web(self):
        for value in NO_WEBS:
            for function in (lot_counts, choice_counts, even_lots, free_choices):
                self.refused(InvalidWeb, function, value)
            for function in (lot_nullity, choice_nullity, lot_value, choice_value):
                self.refused(InvalidWeb, function, value, ())
                self.refused(InvalidWeb, function, value, 2)
                self.refused(InvalidWeb, function, value, None)
            for function in (lessened, lessened_thrice):
                self.refused(InvalidWeb, function, value, 0, 1)
                self.refused(InvalidWeb, function, value, None, None)

    def test_lot_and_choices(self):
        for value in NO_LOTS:
            self.refused(InvalidLot, lot_nullity, PATH, value)
        wrong = STRAYS + (
            (0, 0, 0), (0,) * 5, (0, 0, 0, 3), (0, 0, 0, -1), (0, 0, 0, True), [0, 0, 0, 0], "0000", (0, 0, 0, None),
            (0, 0, 0, 10 ** 60), {0: 0})
        for value in wrong:
            self.refused(InvalidOperation, choice_nullity, PATH, value)

    def test_knots(self):
        for function in (lessened, lessened_thrice):
            for value in STRAYS + (4, -1, True, "0", (0,)):
                if not is_knot(value, 4):
                    self.refused_number(InvalidNumber, function, PATH, value, 1, at=1)
                    self.refused_number(InvalidNumber, function, PATH, 1, value, at=2)
                    self.refused_number(InvalidNumber, function, PATH, value, value, at=1)
                    self.refused_number(InvalidNumber, function, PATH, value, None, at=1)
            for knot in range(4):
                self.refused(InvalidOperation, function, PATH, knot, knot)
            for knot, other in ((0, 2), (2, 0), (0, 3), (3, 1)):
                self.refused(Refused, function, PATH, knot, other, kept=("reason", ("untied",)))
            self.refused(InvalidOperation, function, Web(1, ()), 0, 0)

    def test_number(self):
        for value in STRAYS + (True, False, None, "2", (2,), 10 ** 60, -10 ** 60, 10 ** 99):
            if type(value) is not int or abs(value) >= 10 ** 60:
                self.refused_number(InvalidNumber, lot_value, PATH, value, at=1)
                self.refused_number(InvalidNumber, choice_value, PATH, value, at=1)
                self.refused_number(InvalidNumber, choice_value, Web(9, ()), value, at=1)
        for value in (10 ** 60 - 1, 1 - 10 ** 60):
            self.same(lot_value(Web(1, ()), value), value)

    def test_nine_and_seven_knots(self):
        for web in (Web(9, ()), full_web(10), star_web(9)):
            self.refused(TooMany, choice_counts, web, kept=("limit", 8))
            self.refused(TooMany, choice_value, web, 2, kept=("limit", 8))
            self.assertEqual(len(lot_counts(web)), web.knots + 1)
            self.assertEqual(lot_value(web, 2), 2 ** web.knots)
        for web in (Web(7, ()), full_web(10), round_web(8)):
            self.refused(TooMany, free_choices, web, kept=("limit", 6))
        self.same([len(choice_counts(full_web(8))), choice_value(full_web(8), 3)], [9, 3 ** 8])
        self.same(len(free_choices(Web(6, ()))), 64)


class NotTrue(Case):
    """[20.8]"""

    def test_turns_and_lot_counts(self):
        self.assertNotEqual(lot_counts(ROW), lot_counts(slow_turned(ROW, 1)))

    def test_equal_choice_counts(self):
        other = Web(4, ((0, 2), (1, 2), (1, 3)))
        self.same(choice_counts(PATH), choice_counts(other))
        self.assertNotIn(other.ties, slow_kin(PATH))

    def test_the_lot_value_at_1(self):
        draw = random.Random(2006)
        self.assertIn(0, {lot_value(drawn_web(draw, 4), 1) % 2 for _ in range(40)})
        self.same(lot_value(Web(2, ((0, 1),)), 1), 2)


if __name__ == "__main__":
    unittest.main()
