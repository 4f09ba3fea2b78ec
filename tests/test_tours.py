"""Stage 19: ways and rounds, turns from tour to tour, and how many tours there are [19.2] to [19.6]."""

import random
import unittest
from itertools import product

from tests.helper import STRAYS, Case, among, bent, joined, lots, slow_rank
from tests.test_members import all_letters
from tests.test_nets import (
    FIRST, LOOPS, NO_NETS, ONE, SMALL, TRIED, TWO, UNLED, drawn_nets, gone_back, slow_is_tour, slow_rounds, slow_tours,
    slow_turned_tour)
from tests.test_rings import (
    FIVER, LONG, WRONG_RINGS, about, all_rings, drawn_ring, drawn_rings, slow_do_cross, slow_web)
from tiedanew.errors import InvalidOperation, InvalidRing, InvalidTour, InvalidWeb, Refused, TooMany
from tiedanew.kin.classes import choice_count
from tiedanew.kin.members import are_free
from tiedanew.ring.rings import least_form, turned_ring, web_of
from tiedanew.tour import tours as module
from tiedanew.tour.nets import Net, net_of, ring_of, tour_of, turned_tour
from tiedanew.tour.tours import (
    all_tours, is_turns_or_pair, is_turns_to, led_count, line_table, round_count, signed_table, tour_count,
    turns_or_pair, turns_to)

SIXES = drawn_nets(8, least=6, most=6, seed=1910)


def slow_round_count(net, tour, choice):
    return len(slow_rounds(net, tour, choice))


def slow_table(web, choice):
    """The table on the knots with the ways 1 and 2, with 1 at equal places for 2."""
    knots = [knot for knot in range(web.knots) if choice[knot]]
    return tuple(tuple(int(choice[v] == 2) if v == w else int(joined(web, v, w)) for w in knots) for v in knots)


def tours_by_choices(net):
    """All tours: the choices by which all lines are one round."""
    tour, found = tour_of(net), []
    for choice in product(range(3), repeat=net.knots):
        rounds = slow_rounds(net, tour, choice)
        if len(rounds) == 1:
            found.append(rounds[0])
    return sorted(found)


def slow_led_tours(net):
    """All led tours, by trying all walks along the lines' own directions."""
    def go_on(walk):
        knot = net.lines[walk[-1]][1]
        if len(walk) == len(net.lines):
            return int(knot == net.lines[0][0])
        return sum(go_on(walk + [line]) for line in range(len(net.lines))
                   if line not in walk and net.lines[line][0] == knot)
    return go_on([0])


def slow_determinant(table):
    """By all orders, each with its sign."""
    if not table:
        return 1
    if len(table) == 1:
        return table[0][0]
    return sum((-1) ** k * table[0][k] * slow_determinant([row[:k] + row[k + 1:] for row in table[1:]])
               for k in range(len(table)) if table[0][k])


def pairs_around(ring):
    found = [tuple(sorted((ring[k - 1], ring[k]))) for k in range(len(ring))]
    return {pair: found.count(pair) for pair in found}


def are_like(one, other):
    return other in about(one) + about(one[::-1])


class Examples(Case):

    def test_counts(self):
        net = net_of((0, 1, 0, 1))
        self.same([tour_count(net), led_count(net), len(all_tours(net_of((0, 1, 0, 2, 1, 2))))], [6, 2, 16])
        self.same([round_count(net, FIRST, choice) for choice in ((0, 0), (1, 0), (1, 1), (2, 2))], [1, 2, 1, 2])

    def test_tables(self):
        self.same([signed_table((0, 1, 0, 1)), line_table(TWO)], [((1, 1), (-1, 1)), ((2,),)])
        self.judged(True, is_turns_or_pair, (0, 1, 0, 1), (0, 0, 1, 1), ("pair", (0, 0)))
        self.same(line_table(Net(1, ((0, 0), (0, 0)))), ())

    def test_constant(self):
        self.same(module.MOST_TRIED, 6)


class Ways(Case):
    """[19.2]"""

    def test_by_walking_the_lines(self):
        draw = random.Random(1903)
        for net in TRIED:
            for tour in slow_tours(net)[::7] if net.knots < 4 else [tour_of(net)]:
                choices = list(product(range(3), repeat=net.knots)) if net.knots < 4 else [
                    tuple(draw.randrange(3) for _ in range(net.knots)) for _ in range(12)]
                for choice in choices + [(1,) * net.knots, (2,) * net.knots]:
                    self.same(self.told(round_count, net, tour, choice), slow_round_count(net, tour, choice))

    def test_by_the_table(self):
        draw = random.Random(1904)
        for net in TRIED:
            tour = tour_of(net)
            web = slow_web(ring_of(net, tour))
            for _ in range(8):
                choice = tuple(draw.randrange(3) for _ in range(net.knots))
                table = slow_table(web, choice)
                self.assertEqual(round_count(net, tour, choice), 1 + len(table) - slow_rank(table))

    def test_edges(self):
        self.same([round_count(ONE, tour_of(ONE), (way,)) for way in range(3)], [1, 2, 1])
        self.same(round_count(net_of(LONG), tuple((line, 0) for line in range(20)), (0,) * 10), 1)


class FromTourToTour(Case):
    """[19.3]"""

    def asked(self, net, tour, other):
        row = self.told(turns_to, net, tour, other)
        self.assertLessEqual(len(row), 200)
        behind = tour
        for knot in row:
            behind = slow_turned_tour(net, behind, knot)
        self.same(behind, other)
        self.judged(True, is_turns_to, net, tour, other, row)

    def test_all_pairs_of_small_nets(self):
        for net in SMALL[::5] + [ONE, TWO, LOOPS, UNLED]:
            found = slow_tours(net)
            for tour, other in list(product(found, repeat=2))[::1 if len(found) < 9 else 11]:
                self.asked(net, tour, other)

    def test_great_nets(self):
        draw = random.Random(1905)
        for net in TRIED[-60:]:
            tour = tour_of(net)
            other = tour
            for _ in range(30):
                other = turned_tour(net, other, draw.randrange(net.knots))
            self.asked(net, tour, other)
            self.asked(net, other, tour)
            self.asked(net, other, other)

    def test_all_short_rows(self):
        for net in (ONE, TWO, LOOPS, UNLED):
            found = slow_tours(net)
            for other in found[::3]:
                for size in range(4):
                    for row in product(range(net.knots), repeat=size):
                        behind = found[0]
                        for knot in row:
                            behind = slow_turned_tour(net, behind, knot)
                        self.judged(behind == other, is_turns_to, net, found[0], other, row)

    def test_200_turns_and_201(self):
        for many in (0, 1, 2, 199, 200, 201, 202):
            self.judged(many % 2 == 0 and many <= 200, is_turns_to, TWO, FIRST, FIRST, (1,) * many)

    def test_wrong_rows(self):
        other = turned_tour(TWO, FIRST, 0)
        self.judged(True, is_turns_to, TWO, FIRST, other, (0,))
        for value in STRAYS + tuple(bent((0,))) + ((0, 0), (), (2,), (0, 2, 2), [0], (0, 1), None, "0", ((0,),),
                (True,)):
            if not among(value, [(0,)]):
                self.judged(False, is_turns_to, TWO, FIRST, other, value)

    def test_how_many(self):
        """As many as T of the ring's web, whichever tour's; all of them by walking, and by all choices."""
        for net in SMALL:
            found = slow_tours(net)
            self.same(self.told(tour_count, net), len(found))
            self.same(self.told(all_tours, net), tuple(found))
            for tour in found[::3]:
                self.same(choice_count(slow_web(ring_of(net, tour))), len(found))
        for net in drawn_nets(12, least=4, most=5, seed=1911) + SIXES[:3]:
            found = tours_by_choices(net)
            self.same(tour_count(net), len(found))
            self.same(all_tours(net), tuple(found))
            self.assertTrue(all(slow_is_tour(net, tour) for tour in found))

    def test_as_many_as_tables_that_can_be_inverted(self):
        for net in SMALL[::3] + drawn_nets(4, least=4, most=5, seed=1912):
            web = slow_web(ring_of(net, tour_of(net)))
            tables = [slow_table(web, choice) for choice in product(range(3), repeat=net.knots)]
            self.same(tour_count(net), sum(slow_rank(table) == len(table) for table in tables))
            letters = [letters for letters in all_letters(net.knots) if are_free(web, letters)]
            self.same(tour_count(net), len(letters))

    def test_all_of_six_knots(self):
        for net in SIXES:
            found = all_tours(net)
            self.same(len(found), tour_count(net))
            self.assertEqual(list(found), sorted(set(found)))
            self.assertTrue(all(slow_is_tour(net, tour) for tour in found))

    def test_counts_of_great_nets(self):
        draw = random.Random(1906)
        for net in TRIED[-40:]:
            tour = tour_of(net)
            for _ in range(3):
                tour = turned_tour(net, tour, draw.randrange(net.knots))
                self.same(tour_count(net), choice_count(web_of(ring_of(net, tour))))
        self.same([tour_count(ONE), tour_count(net_of((0, 0, 1, 1)))], [2, 4])


class Rings(Case):
    """[19.4]"""

    def asked(self, ring, other):
        paper = self.told(turns_or_pair, ring, other)
        self.judged(True, is_turns_or_pair, ring, other, paper)
        word, told = paper
        if word == "turns":
            self.assertEqual(pairs_around(ring), pairs_around(other))
            self.assertLessEqual(len(told), 200)
            behind = ring
            for name in told:
                behind = turned_ring(behind, name)
            self.assertTrue(are_like(behind, other))
        else:
            self.assertEqual(word, "pair")
            self.assertLessEqual(told[0], told[1])
            self.assertNotEqual(pairs_around(ring).get(told), pairs_around(other).get(told))
        return word

    def test_all_small_rings(self):
        """EITHER OR, never both: turns lead exactly to the rings with as many neighbours each."""
        for many in (1, 2, 3):
            rings = list(all_rings(many))
            for ring in rings[::1 if many < 3 else 9]:
                reached, layer = {least_form(ring)}, [ring]
                while layer:
                    layer = [behind for behind in (turned_ring(each, name) for each in layer for name in range(many))
                             if least_form(behind) not in reached and not reached.add(least_form(behind))]
                for other in rings:
                    word = self.asked(ring, other)
                    self.assertEqual(word == "turns", least_form(other) in reached)
                    self.assertEqual(word == "turns", pairs_around(ring) == pairs_around(other))

    def test_great_rings(self):
        draw = random.Random(1907)
        for ring in drawn_rings(40, least=4, seed=1913) + [LONG, FIVER]:
            behind = ring
            for _ in range(20):
                behind = turned_ring(behind, draw.randrange(len(ring) // 2))
            by = draw.randrange(len(ring))
            for other in (behind, behind[::-1], behind[by:] + behind[:by], ring):
                self.assertEqual(self.asked(ring, other), "turns")
            self.asked(ring, drawn_ring(draw, len(ring) // 2))

    def test_rings_of_tours_of_one_net(self):
        draw = random.Random(1908)
        for net in TRIED[-40:]:
            tour = tour_of(net)
            other = tour
            for _ in range(9):
                other = turned_tour(net, other, draw.randrange(net.knots))
            self.assertEqual(self.asked(ring_of(net, tour), ring_of(net, other)), "turns")

    def test_all_pairs(self):
        for ring, other in ((FIVER, turned_ring(FIVER, 2)), (FIVER, FIVER[:8] + (2, 1)), ((0, 1, 0, 1), (0, 0, 1, 1)), (
                (0, 0, 1, 1, 2, 2), (0, 1, 0, 1, 2, 2)), ((0, 0), (0, 0))):
            for pair in product(range(-1, len(ring) // 2 + 1), repeat=2):
                right = pair[0] <= pair[1] and pairs_around(ring).get(pair) != pairs_around(other).get(pair)
                self.judged(right, is_turns_or_pair, ring, other, ("pair", pair))

    def test_all_short_rows(self):
        for ring in ((0, 1, 0, 1), (0, 1, 2, 0, 2, 1), (0, 0, 1, 1, 2, 2)):
            for other in (ring[::-1], turned_ring(ring, 1), ring[1:] + ring[:1], tuple(sorted(ring))):
                for size in range(4):
                    for row in product(range(len(ring) // 2), repeat=size):
                        behind = ring
                        for name in row:
                            behind = turned_ring(behind, name)
                        self.judged(are_like(behind, other), is_turns_or_pair, ring, other, ("turns", row))

    def test_200_turns_and_201(self):
        for many in (0, 1, 2, 199, 200, 201, 202):
            self.judged(many % 2 == 0 and many <= 200, is_turns_or_pair, FIVER, FIVER, ("turns", (0,) * many))

    def test_wrong_papers(self):
        for ring, other, right in (((0, 1, 0, 1), (0, 0, 1, 1), ("pair", (0, 0))), (
                FIVER, turned_ring(FIVER, 0), ("turns", (0,)))):
            self.judged(True, is_turns_or_pair, ring, other, right)
            wrong = STRAYS + tuple(bent(right)) + (
                ("pair",), ("turns",), ("pair", 0, 0), ("pair", (0,)), ("pair", (0, 0, 0)), ("pair", [0, 0]),
                ("pair", None), ("turns", None), ("turns", [0]), ("turns", (99,)), ("turns", "0"), right[::-1],
                right + (0,), list(right), (right,), right[1], ("turn", right[1]), ("pair", ring), ("turns", (0, 99)),
                ("pair", (1, 0)), ("pair", (0, True)), ("pair", ((0, 0),)),
                ("turns", (len(ring) // 2,)), ("pair", (0, len(ring) // 2)), ("pair", ([0], 0)))
            for value in wrong:
                if not among(value, [right]):
                    self.judged(False, is_turns_or_pair, ring, other, value)


class Led(Case):
    """[19.5]"""

    def test_by_all_walks(self):
        for net in [net for net in TRIED if net.is_led and net.knots < 8]:
            self.same(self.told(led_count, net), slow_led_tours(net))

    def test_led_tours_among_all(self):
        for net in [net for net in SMALL + SIXES[:3] if net.is_led] + [
                net_of(ring) for ring in drawn_rings(6, least=4, most=6, seed=1914)]:
            led = [tour for tour in all_tours(net) if all(direction == 0 for _, direction in tour)]
            self.same(led_count(net), len(led))

    def test_by_lots_and_determinants(self):
        """As many as lots with a table that can be inverted, and both determinants."""
        for ring in drawn_rings(25, most=7, seed=1915) + list(all_rings(2)) + list(all_rings(3))[::7] + [FIVER, (0, 0)]:
            net = net_of(ring)
            many, count = net.knots, led_count(net)
            web = slow_web(ring)
            tables = [slow_table(web, [int(v in lot) for v in range(many)]) for lot in lots(many)]
            self.same(count, sum(slow_rank(table) == len(table) for table in tables))
            self.same(count, slow_determinant(signed_table(ring)))
            self.same(count, slow_determinant(line_table(net)))

    def test_great_nets(self):
        for ring in drawn_rings(20, least=8, seed=1916) + [LONG, LONG[:10] + LONG[9::-1]]:
            net = net_of(ring)
            self.same(led_count(net), slow_determinant(signed_table(ring)))
            self.same(led_count(net), slow_determinant(line_table(net)))
        self.same([led_count(ONE), led_count(LOOPS), led_count(TRIED[-1])], [1, 1, 1])

    def test_tables(self):
        for ring in [ring for many in (1, 2, 3) for ring in all_rings(many)] + drawn_rings(30, seed=1917):
            table = self.told(signed_table, ring)
            self.same(table, tuple(tuple(
                1 if v == w else 0 if not slow_do_cross(ring, v, w) else 1 if ring.index(v) < ring.index(w) else -1
                for w in range(len(ring) // 2)) for v in range(len(ring) // 2)))
            net = net_of(ring)
            self.same(self.told(line_table, net), tuple(tuple(
                2 * (v == w) - net.lines.count((v, w)) for w in range(1, net.knots)) for v in range(1, net.knots)))

    def test_swings_lead_to_all(self):
        """From a led tour swings at two knots that cross, tour by tour, lead to all led ones."""
        for net in [net for net in TRIED if net.is_led and net.knots < 6]:
            first = next(tour for tour in all_tours(net) if all(direction == 0 for _, direction in tour))
            found, layer = {first}, [first]
            while layer:
                behind = []
                for tour in layer:
                    for v, w in slow_web(ring_of(net, tour)).ties:
                        other = tour
                        for knot in (v, w, v):
                            other = turned_tour(net, other, knot)
                        self.assertTrue(all(direction == 0 for _, direction in other))
                        if other not in found:
                            found.add(other)
                            behind.append(other)
                layer = behind
            self.assertEqual(len(found), led_count(net))


class Refusals(Case):

    def test_net(self):
        for value in NO_NETS:
            for function in (tour_count, all_tours, line_table, led_count):
                self.refused(InvalidWeb, function, value)
            self.refused(InvalidWeb, round_count, value, FIRST, (0, 0))
            self.refused(InvalidWeb, round_count, value, None, None)
            self.refused(InvalidWeb, turns_to, value, FIRST, FIRST)
            self.refused(InvalidWeb, turns_to, value, None, None)
            self.refused(InvalidWeb, is_turns_to, value, None, None, None)

    def test_tours(self):
        wrong = STRAYS + tuple(bent(FIRST, 10 ** 99)) + (FIRST[1:] + FIRST[:1], gone_back(FIRST), FIRST[:-1])
        for value in wrong:
            self.refused(InvalidTour, round_count, TWO, value, (0, 0))
            self.refused(InvalidTour, round_count, TWO, value, None)
            for one, other in ((value, FIRST), (FIRST, value), (value, value)):
                self.refused(InvalidTour, turns_to, TWO, one, other)
                self.refused(InvalidTour, is_turns_to, TWO, one, other, ())
                self.refused(InvalidTour, is_turns_to, TWO, one, other, None)

    def test_choice(self):
        wrong = STRAYS + ((0,), (0, 0, 0), (0, 3), (-1, 0), (0, True), [0, 0], "00", (0, None), ((0, 0),), (0,
            10 ** 60))
        for value in wrong:
            if not among(value, [(0, 0), (1, 0)]):
                self.refused(InvalidOperation, round_count, TWO, FIRST, value)

    def test_seven_knots(self):
        for net in drawn_nets(3, least=7, most=7, seed=1919) + [net_of(LONG)]:
            self.refused(TooMany, all_tours, net, kept=("limit", 6))

    def test_not_led(self):
        for net in [net for net in TRIED if not net.is_led]:
            for function in (line_table, led_count):
                self.refused(Refused, function, net, kept=("reason", ("led",)))
        self.assertGreater(len([net for net in TRIED if not net.is_led]), 20)

    def test_rings(self):
        for value in WRONG_RINGS:
            self.refused(InvalidRing, signed_table, value)
            for one, other in ((value, FIVER), (FIVER, value), (value, None), (value, (0, 0))):
                self.refused(InvalidRing, turns_or_pair, one, other)
                self.refused(InvalidRing, is_turns_or_pair, one, other, ("turns", ()))
                self.refused(InvalidRing, is_turns_or_pair, one, other, None)
        for one, other in (((0, 0), (0, 1, 0, 1)), (FIVER, LONG), (LONG, FIVER)):
            self.refused(InvalidOperation, turns_or_pair, one, other)
            for paper in (("pair", (0, 0)), ("turns", ()), None):
                self.refused(InvalidOperation, is_turns_or_pair, one, other, paper)


class NotTrue(Case):
    """[19.6]"""

    def test_webs_of_rings_of_all_tours(self):
        self.assertGreater(len({slow_web(ring_of(UNLED, tour)).ties for tour in all_tours(UNLED)}), 1)

    def test_the_way_2_at_each_knot(self):
        self.same(round_count(TWO, FIRST, (2, 2)), 2)

    def test_rings_of_one_web(self):
        one, other = (0, 0, 1, 1, 2, 2), (0, 1, 1, 0, 2, 2)
        self.assertEqual(slow_web(one), slow_web(other))
        self.assertNotEqual(pairs_around(one), pairs_around(other))


if __name__ == "__main__":
    unittest.main()
