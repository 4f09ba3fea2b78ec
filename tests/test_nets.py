"""Stage 19: nets and their tours [19.1], and turned tours [19.3]."""

import random
import unittest
from itertools import permutations, product

from tests.helper import STRAYS, Case, among, bent, is_knot
from tests.test_rings import FIVER, LONG, WRONG_RINGS, about, all_rings, drawn_ring, drawn_rings
from tiedanew.errors import InvalidNumber, InvalidRing, InvalidTour, InvalidWeb
from tiedanew.ring.rings import least_form, turned_ring
from tiedanew.tour.nets import Net, is_tour, net_of, ring_of, tour_of, turned_tour
from tiedanew.web.webs import Web

ONE = Net(1, ((0, 0), (0, 0)))
TWO = Net(2, ((0, 1), (1, 0), (0, 1), (1, 0)))
LOOPS = Net(2, ((0, 0), (0, 1), (1, 0), (1, 1)))
UNLED = Net(3, ((0, 1), (0, 1), (0, 2), (0, 2), (1, 2), (2, 1)))
FIRST = ((0, 0), (1, 0), (2, 0), (3, 0))
NO_NETS = STRAYS + ((1, ((0, 0), (0, 0))), ((0, 0), (0, 0)), Web(1, ()), [ONE], (ONE,), {0: ONE})
NO_LINES = STRAYS + (
    ((0, 0),), ((0, 0),) * 3, ((0, 1), (0, 1)), ((0, 0), (0, 1)), ((0, 0), [0, 0]), [(0, 0), (0, 0)], ((0, 0), (0,)),
    ((0, 0), (0, 0, 0)), ((0, 0), (0, False)), ((0, 0), (0, None)), ((0, 0), None), ((0, 0), "00"), ("00", "00"),
    ((0, 0), (-1, 0)), ((0, 0), (0, 10 ** 60)), {0: (0, 0), 1: (0, 0)}, (0, 0, 0, 0), ((0, 0), (ONE, ONE)),
    ((0,), (0, 0, 0)), ((0, 0, 0, 0),), ((0,),) * 4, ((0, 0, 0, 0), ()), ((), (0, 0), (0, 0)))


def are_lines(value, many):
    """Whether they are the lines of a net of so many knots, by definition."""
    ends = [knot for line in value for knot in line]
    found = {0}
    for _ in range(many):
        found |= {knot for line in value for knot in line if set(line) & found}
    return len(value) == 2 * many and all(ends.count(knot) == 4 for knot in range(many)) and len(found) == many


def drawn_net(draw, many):
    """A net out of a ring, its lines in any sequence, each one either way."""
    lines = [line if draw.random() < 0.5 else line[::-1] for line in net_of(drawn_ring(draw, many)).lines]
    draw.shuffle(lines)
    return Net(many, tuple(lines))


def drawn_nets(many, least=1, most=10, seed=191):
    draw = random.Random(seed)
    return [drawn_net(draw, draw.randint(least, most)) for _ in range(many)]


def all_nets(many):
    return [Net(many, lines) for lines in product(product(range(many), repeat=2), repeat=2 * many)
            if are_lines(lines, many)]


def slow_begin(net, step):
    return net.lines[step[0]][step[1]]


def slow_end(net, step):
    return net.lines[step[0]][1 - step[1]]


def slow_is_tour(net, value):
    """Each line once, each step beginning where the one ahead ends, the first one being (0, 0)."""
    if value[0] != (0, 0) or sorted(line for line, _ in value) != list(range(len(net.lines))):
        return False
    return all(slow_end(net, value[k - 1]) == slow_begin(net, step) for k, step in enumerate(value))


def slow_tours(net):
    """All tours, by walking all lines in every way."""
    def go_on(walk):
        knot = slow_end(net, walk[-1])
        if len(walk) == len(net.lines):
            if knot == slow_begin(net, walk[0]):
                yield tuple(walk)
            return
        used = {line for line, _ in walk}
        for line, direction in product(range(len(net.lines)), (0, 1)):
            if line not in used and slow_begin(net, (line, direction)) == knot:
                yield from go_on(walk + [(line, direction)])
    return sorted(go_on([(0, 0)]))


def slow_joined(net, tour, choice):
    """For each end (line, side) the end that it is joined with by the ways of the choice [19.2]."""
    joined, ring = {}, [slow_begin(net, step) for step in tour]
    for knot in range(net.knots):
        first, second = [at for at, other in enumerate(ring) if other == knot]
        into, out = [], []
        for at in (first, second):
            line, direction = tour[at - 1]
            into.append((line, 1 - direction))
            out.append(tour[at])
        pairs = (((into[0], out[0]), (into[1], out[1])), ((into[0], out[1]), (into[1], out[0])),
                 ((into[0], into[1]), (out[0], out[1])))[choice[knot]]
        for one, other in pairs:
            joined[one], joined[other] = other, one
    return joined


def slow_rounds(net, tour, choice):
    """The rounds, walked along; each one begins with its least line, in the direction 0."""
    joined, found, used = slow_joined(net, tour, choice), [], set()
    for line in range(len(net.lines)):
        if line in used:
            continue
        walk, step = [], (line, 0)
        while step[0] not in used:
            used.add(step[0])
            walk.append(step)
            step = joined[(step[0], 1 - step[1])]
        found.append(tuple(walk))
    return found


def slow_turned_tour(net, tour, knot):
    """The way 2 at the knot, 0 else."""
    (walk,) = slow_rounds(net, tour, tuple(2 if other == knot else 0 for other in range(net.knots)))
    return walk


def gone_back(tour):
    return tuple((line, 1 - direction) for line, direction in tour[::-1])


SMALL = [ONE] + all_nets(2) + drawn_nets(40, least=3, most=3, seed=192)
TRIED = SMALL + drawn_nets(50, least=4) + [net_of(ring) for ring in (FIVER, LONG, LONG[:10] + LONG[9::-1])] + [
    LOOPS, UNLED, Net(10, ((0, 0), (0, 1), (1, 1), (1, 2), (2, 2), (2, 3), (3, 3), (3, 4), (4, 4), (4, 5), (5, 5), (
        5, 6), (6, 6), (6, 7), (7, 7), (7, 8), (8, 8), (8, 9), (9, 9), (9, 0)))]


class Examples(Case):

    def test_two(self):
        net = net_of((0, 1, 0, 1))
        self.assertEqual(net, TWO)
        self.same([net.lines, net.is_led, turned_tour(net, FIRST, 0)], [
            ((0, 1), (1, 0), (0, 1), (1, 0)), True, ((0, 0), (1, 0), (3, 1), (2, 1))])


class TheClass(Case):

    def test_properties(self):
        for net in TRIED:
            same = Net(net.knots, net.lines)
            self.same([same.knots, same.lines], [net.knots, net.lines])
        self.same([ONE.knots, ONE.lines], [1, ((0, 0), (0, 0))])

    def test_all_lines_of_two_knots(self):
        pairs = list(product(range(2), repeat=2))
        for many in (2, 3, 4, 5):
            for lines in product(pairs, repeat=many):
                if are_lines(lines, 2):
                    self.same(Net(2, lines).lines, lines)
                else:
                    self.refused(InvalidWeb, Net, 2, lines)

    def test_lines_of_three_knots(self):
        draw, found = random.Random(1901), []
        pairs = list(product(range(3), repeat=2))
        for _ in range(1500):
            ends = [0, 0, 0, 0, 1, 1, 1, 1, 2, 2, 2, 2]
            draw.shuffle(ends)
            lines = tuple((ends[2 * k], ends[2 * k + 1]) for k in range(6))
            if draw.random() < 0.3:
                lines = lines[:-1] + (draw.choice(pairs),)
            found.append(are_lines(lines, 3))
            if found[-1]:
                self.same(Net(3, lines).lines, lines)
            else:
                self.refused(InvalidWeb, Net, 3, lines)
        self.assertEqual(set(found), {True, False})

    def test_several_pieces_and_a_fifth_end(self):
        loops = ((0, 0), (0, 0))
        for knots, lines in (
                (2, loops + ((1, 1), (1, 1))), (2, loops + ((0, 1), (1, 1))), (1, loops + ((0, 0),)), (2, loops), (
                3, ((0, 1),) * 4 + ((2, 2), (2, 2))), (10, tuple((v, v) for v in range(10)) * 2), (1, ((0, 0),)), (
                3, ((0, 1), (0, 1), (0, 1), (0, 1), (2, 2), (2, 2))), (4, ((0, 1),) * 4 + ((2, 3),) * 4)):
            self.refused(InvalidWeb, Net, knots, lines)

    def test_led(self):
        for net in TRIED:
            begun = [line[0] for line in net.lines]
            led = all(begun.count(knot) == 2 for knot in range(net.knots))
            self.judged(led, lambda told: told.is_led, net)
        self.judged(False, lambda told: told.is_led, UNLED)
        self.judged(True, lambda told: told.is_led, LOOPS)
        self.assertEqual({net.is_led for net in all_nets(2)}, {True, False})

    def test_equal(self):
        for one, other in product(TRIED[:40], repeat=2):
            alike = (one.knots, one.lines) == (other.knots, other.lines)
            self.assertIs(one == other, alike)
            self.assertIs(one != other, not alike)
        for value in STRAYS + ((1, ONE.lines), ONE.lines, "net"):
            self.assertIs(ONE == value, False)
            self.assertIs(ONE != value, True)
        self.assertIs(TWO == Net(2, ((1, 0), (0, 1), (0, 1), (1, 0))), False)
        self.assertIn(Net(1, ((0, 0), (0, 0))), [5, ONE])

    def test_it_never_changes(self):
        for name in ("knots", "lines", "is_led"):
            with self.assertRaises(AttributeError):
                setattr(TWO, name, 3)
        tour_of(TWO), turned_tour(TWO, FIRST, 1), ring_of(TWO, FIRST)
        self.same([TWO.knots, TWO.lines, TWO.is_led], [2, ((0, 1), (1, 0), (0, 1), (1, 0)), True])

    def test_it_is_not_iterated_over(self):
        for iterate in (iter, list, tuple, set, sorted):
            with self.assertRaises(TypeError):
                iterate(TWO)

    def test_refused(self):
        for value in STRAYS + (0, 11, -1, True, "1", (1,)):
            if not is_knot(value, 2):
                self.refused(InvalidWeb, Net, value, ONE.lines)
        for value in NO_LINES:
            self.refused(InvalidWeb, Net, 1, value)
        for value in bent(UNLED.lines, 10 ** 99):
            self.refused(InvalidWeb, Net, 3, value)
        self.refused(InvalidWeb, Net, 2, ONE.lines)
        self.refused(InvalidWeb, Net, True, ONE.lines)
        self.refused(InvalidWeb, Net, 11, tuple((v, (v + 1) % 11) for v in range(11)) * 2)


class Tours(Case):

    def test_nets_of_rings(self):
        for ring in [ring for many in (1, 2, 3) for ring in all_rings(many)] + drawn_rings(40) + [FIVER, LONG]:
            net = self.told(net_of, ring)
            self.same(net.lines, tuple((ring[k], ring[(k + 1) % len(ring)]) for k in range(len(ring))))
            self.same([net.knots, net.is_led], [len(ring) // 2, True])
            tour = tuple((line, 0) for line in range(len(ring)))
            self.judged(True, is_tour, net, tour)
            self.same(self.told(ring_of, net, tour), ring)

    def test_all_values_of_small_nets(self):
        for net in [ONE, TWO, LOOPS] + all_nets(2)[::7]:
            for lines in permutations(range(len(net.lines))):
                for directions in product((0, 1), repeat=len(net.lines)):
                    value = tuple(zip(lines, directions))
                    self.judged(slow_is_tour(net, value), is_tour, net, value)

    def test_any_one(self):
        for net in TRIED:
            tour = self.told(tour_of, net)
            self.assertTrue(slow_is_tour(net, tour))
            self.judged(True, is_tour, net, tour)
            self.assertTrue(all(type(step) is tuple and len(step) == 2 for step in tour))
            self.same(self.told(ring_of, net, tour), tuple(slow_begin(net, step) for step in tour))

    def test_all_of_small_nets(self):
        for net in SMALL:
            for tour in slow_tours(net):
                self.judged(True, is_tour, net, tour)
                self.same(ring_of(net, tour), tuple(slow_begin(net, step) for step in tour))

    def test_begun_elsewhere_or_gone_back(self):
        for net in TRIED:
            tour = tour_of(net)
            for by in range(1, len(tour)):
                self.judged(False, is_tour, net, tour[by:] + tour[:by])
            back = gone_back(tour)
            for by in range(len(tour)):
                value = back[by:] + back[:by]
                self.judged(False, is_tour, net, value)
                self.refused(InvalidTour, ring_of, net, value)

    def test_wrong_values(self):
        for net in (ONE, TWO, UNLED):
            tour = tour_of(net)
            wrong = STRAYS + tuple(bent(tour)) + (
                tour[:-1], tour + tour[-1:], tour[:-1] + ((0, 0),), tour[:-1] + ((99, 0),), tour[:-1] + ((-1, 0),),
                tour[:-1] + ((tour[-1][0], 2),), tour[:-1] + ((tour[-1][0], -1),), tour[:-1] + ((tour[-1][0],),),
                tour[:-1] + ((tour[-1][0], 0, 0),), tour[:-1] + (None,), tour[1:] + tour[:1], (tour,), list(tour),
                tuple(list(step) for step in tour), tuple(line for line, _ in tour), (), ring_of(net, tour))
            for value in wrong:
                self.judged(False, is_tour, net, value)


class Turned(Case):

    def test_the_way_2(self):
        for net in TRIED:
            tours = slow_tours(net)[::5] if net.knots < 4 else [tour_of(net)]
            for tour in tours:
                for knot in range(net.knots):
                    behind = self.told(turned_tour, net, tour, knot)
                    self.same(behind, slow_turned_tour(net, tour, knot))
                    self.judged(True, is_tour, net, behind)
                    self.same(turned_tour(net, behind, knot), tour)

    def test_its_ring_is_like_the_ring_turned(self):
        """[19.3]"""
        draw = random.Random(1902)
        for net in TRIED:
            tour = tour_of(net)
            for _ in range(5):
                knot = draw.randrange(net.knots)
                ring = turned_ring(ring_of(net, tour), knot)
                tour = turned_tour(net, tour, knot)
                self.assertEqual(least_form(ring_of(net, tour)), least_form(ring))
                like = about(ring) + about(ring[::-1])
                self.assertIn(ring_of(net, tour), like)


class Refusals(Case):

    def test_ring(self):
        for value in WRONG_RINGS:
            self.refused(InvalidRing, net_of, value)

    def test_net(self):
        for value in NO_NETS:
            self.refused(InvalidWeb, tour_of, value)
            for tour in (((0, 0), (1, 0)), None):
                self.refused(InvalidWeb, ring_of, value, tour)
                self.refused(InvalidWeb, is_tour, value, tour)
                self.refused(InvalidWeb, turned_tour, value, tour, 0)
                self.refused(InvalidWeb, turned_tour, value, tour, None)

    def test_tour(self):
        for net in (ONE, TWO, UNLED):
            right = tour_of(net)
            for value in STRAYS + tuple(bent(right, 10 ** 99)) + (right[1:] + right[:1], gone_back(right), right[:-1]):
                if not among(value, [right]):
                    self.refused(InvalidTour, ring_of, net, value)
                    self.refused(InvalidTour, turned_tour, net, value, 0)
                    self.refused(InvalidTour, turned_tour, net, value, 99)

    def test_knot(self):
        for value in STRAYS + (2, -1, True, "0", (0,)):
            if not is_knot(value, 2):
                self.refused_number(InvalidNumber, turned_tour, TWO, FIRST, value, at=2)


if __name__ == "__main__":
    unittest.main()
