"""Nets of knots with four ends each, and the tours that go once along each line."""

from tiedanew.base.checks import are_below, is_below, is_whole
from tiedanew.errors import InvalidNumber, InvalidTour, InvalidWeb
from tiedanew.ring.rings import check_ring
from tiedanew.web.webs import MOST_KNOTS


def _are_in_one_piece(lines, many):
    """Whether the lines lead from the first one of so many knots to each."""
    found = [0]
    for _ in range(many):
        for line in lines:
            found = found + [knot for knot in line if knot not in found and (line[0] in found or line[1] in found)]
    return len(found) == many


def are_lines(value, many):
    """Whether the value is the lines of a net of so many knots."""
    if not isinstance(value, tuple) or not all([are_below(line, many) and len(line) == 2 for line in value]):
        return False
    ends = sorted([knot for line in value for knot in line])
    return ends == sorted(list(range(many)) * 4) and _are_in_one_piece(value, many)


class Net:
    """Knots 0 to knots - 1, and lines between them, so that each knot has four ends."""

    def __init__(self, knots, lines):
        if not is_whole(knots) or not 1 <= knots <= MOST_KNOTS:
            raise InvalidWeb("a net has 1 to 10 knots")
        if not are_lines(lines, knots):
            raise InvalidWeb("lines are a tuple of pairs of knots, with four ends at each knot, in one piece")
        self._knots = knots
        self._lines = lines

    @property
    def knots(self):
        """How many knots there are."""
        return self._knots

    @property
    def lines(self):
        """The tuple of the lines, pairs of knots."""
        return self._lines

    @property
    def is_led(self):
        """Whether two lines begin and two end at each knot."""
        return sorted([line[0] for line in self._lines]) == sorted(list(range(self._knots)) * 2)

    def __eq__(self, other):
        return isinstance(other, Net) and self._knots == other._knots and self._lines == other._lines


def check_net(value):
    """InvalidWeb unless the value is a net."""
    if not isinstance(value, Net):
        raise InvalidWeb("this is no net")


def net_of(ring):
    """The net whose lines lead from each place of the ring to the next one."""
    check_ring(ring)
    return Net(len(ring) // 2, tuple(list(zip(ring, ring[1:] + ring[:1]))))


def begin_of(net, step):
    """The knot at which the step begins."""
    line, direction = step
    return net.lines[line][direction]


def _end_of(net, step):
    line, direction = step
    return net.lines[line][1 - direction]


def back_along(steps):
    """The steps gone the other way, the last one first."""
    return tuple([(line, 1 - direction) for line, direction in reversed(steps)])


def _is_step(value, many):
    return are_below(value, many) and len(value) == 2 and value[1] < 2


def is_tour(net, value):
    """Whether the value is a tour of the net."""
    check_net(net)
    many = len(net.lines)
    if not isinstance(value, tuple) or len(value) != many or not all([_is_step(step, many) for step in value]):
        return False
    if value[0] != (0, 0) or len(set([line for line, _ in value])) != many:
        return False
    return all([_end_of(net, step) == begin_of(net, then) for step, then in zip(value, value[1:] + value[:1])])


def check_tour(net, value):
    """InvalidWeb unless it is a net, then InvalidTour unless the value is a tour of it."""
    if not is_tour(net, value):
        raise InvalidTour("a tour goes once along each line, the first one being (0, 0)")


def ring_of(net, tour):
    """The knots at which the steps of the tour begin."""
    check_tour(net, tour)
    return tuple([begin_of(net, step) for step in tour])


def _unused_step(net, knot, used):
    """A step from the knot along a line that is not used, None without one."""
    for line, ends in enumerate(net.lines):
        if line not in used and knot in ends:
            return (line, ends.index(knot))
    return None


def _walk_on(net, knot, used):
    """Steps from the knot along lines that are not used, till there is none; they are used then."""
    walk, step = (), _unused_step(net, knot, used)
    while step is not None:
        used[step[0]] = True
        walk = walk + (step,)
        step = _unused_step(net, _end_of(net, step), used)
    return walk


def tour_of(net):
    """A tour of the net."""
    check_net(net)
    used, place = {}, 0
    tour = _walk_on(net, net.lines[0][0], used)
    # Each knot has ends two by two, so a walk gets stuck where it began, and can be put in there.
    while place < len(tour):
        tour = tour[:place] + _walk_on(net, begin_of(net, tour[place]), used) + tour[place:]
        place += 1
    return tour


def turned_tour(net, tour, knot):
    """The tour with the stretch between both visits of the knot gone the other way."""
    ring = ring_of(net, tour)
    if not is_below(knot, net.knots):
        raise InvalidNumber(knot)
    first = ring.index(knot)
    last = ring.index(knot, first + 1)
    if first == 0:
        # The first step stays as it is, so the other stretch is gone the other way: so are both closed walks one.
        return tour[:last] + back_along(tour[last:])
    return tour[:first] + back_along(tour[first:last]) + tour[last:]
