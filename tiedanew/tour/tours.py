"""Rounds of nets, turns from tour to tour, and how many tours there are."""

from tiedanew.base.checks import are_below
from tiedanew.errors import InvalidOperation, Refused, TooMany
from tiedanew.kin.letters import turns_by
from tiedanew.ring.rings import check_ring, crossing, least_form, turned_ring, web_of
from tiedanew.tour.nets import back_along, check_net, check_tour, net_of, ring_of, tour_of, turned_tour
from tiedanew.web.choices import counts_of_choices, nullity_of_choices
from tiedanew.web.webs import MOST_TURNS, masks_of

MOST_TRIED = 6


def _web_of_tour(net, tour):
    """The web of the tour's ring."""
    return web_of(ring_of(net, tour))


def round_count(net, tour, choice):
    """How many rounds the lines fall into by the ways of the choice."""
    web = _web_of_tour(net, tour)
    if not are_below(choice, 3) or len(choice) != net.knots:
        raise InvalidOperation("a choice is 0, 1 or 2 for each knot")
    return nullity_of_choices(masks_of(web), choice) + 1


def _joined_ends(tour):
    """For each end of a line, told as (line, side), the end with which the tour goes on."""
    found = {}
    for (line, direction), (then, side) in zip(tour, tour[1:] + tour[:1]):
        found[(line, 1 - direction)] = (then, side)
        found[(then, side)] = (line, 1 - direction)
    return found


def _letters_to(net, tour, other):
    """For each knot the way in which the other tour joins its ends, 0, 1, 2 being told as Z, X, Y."""
    ring, ends, joined = ring_of(net, tour), _joined_ends(tour), _joined_ends(other)
    letters = ""
    for knot in range(net.knots):
        first = ring.index(knot)
        last = ring.index(knot, first + 1)
        incoming, outgoing = ends[tour[first]], (tour[first], tour[last])
        met = joined[incoming]
        letters = letters + ("ZX"[outgoing.index(met)] if met in outgoing else "Y")
    return letters


def _turns_between(net, tour, other):
    # Turns and swings change ways as they change letters: 1 and 2 are exchanged near a turn, 0 and 2 at it.
    return turns_by(_web_of_tour(net, tour), _letters_to(net, tour, other))


def turns_to(net, tour, other):
    """A row of turns from the tour to the other one."""
    check_tour(net, tour)
    check_tour(net, other)
    return _turns_between(net, tour, other)


def _is_row(value, many):
    """Whether the value is a row of at most 200 turns at so many knots."""
    return are_below(value, many) and len(value) <= MOST_TURNS


def is_turns_to(net, tour, other, value):
    """Whether the value is a row of at most 200 turns from the tour to the other one."""
    check_tour(net, tour)
    check_tour(net, other)
    if not _is_row(value, net.knots):
        return False
    behind = tour
    for knot in value:
        behind = turned_tour(net, behind, knot)
    return behind == other


def tour_count(net):
    """How many tours there are."""
    return counts_of_choices(masks_of(_web_of_tour(net, tour_of(net))))[0]


def all_tours(net):
    """The ascending tuple of all tours."""
    check_net(net)
    if net.knots > MOST_TRIED:
        raise TooMany(MOST_TRIED)
    first = tour_of(net)
    found, layer = {first: True}, [first]
    while layer:
        turned = [turned_tour(net, tour, knot) for tour in layer for knot in range(net.knots)]
        layer = []
        for tour in turned:
            if tour not in found:
                found[tour] = True
                layer.append(tour)
    return tuple(sorted(list(found)))


def _pairs_around(ring):
    """For each pair of neighbours, the lesser name ahead, how often it stands in the ring."""
    found = {}
    for one, other in zip(ring, ring[1:] + ring[:1]):
        pair = (min(one, other), max(one, other))
        found[pair] = found.get(pair, 0) + 1
    return found


def _unlike_pair(ring, other):
    """The least pair of neighbours that stands unlike often in both, None if there is none."""
    pairs, others = _pairs_around(ring), _pairs_around(other)
    unlike = [pair for pair in list(pairs) + list(others) if pairs.get(pair, 0) != others.get(pair, 0)]
    return min(unlike, default=None)


def _tour_along(net, ring):
    """A tour of the net whose ring is like the ring, which has the net's lines as neighbours."""
    steps, used = (), {}
    for pair in zip(ring, ring[1:] + ring[:1]):
        line = [k for k, ends in enumerate(net.lines) if k not in used and ends in (pair, pair[::-1])][0]
        used[line] = True
        steps = steps + ((line, 0 if net.lines[line] == pair else 1),)
    if (0, 0) not in steps:
        steps = back_along(steps)
    place = steps.index((0, 0))
    return steps[place:] + steps[:place]


def _check_rings(ring, other):
    check_ring(ring)
    check_ring(other)
    if len(ring) != len(other):
        raise InvalidOperation("rings of unlike lengths")


def turns_or_pair(ring, other):
    """("turns", row) that leads the ring to one like the other, or ("pair", pair) of neighbours unlike often."""
    _check_rings(ring, other)
    pair = _unlike_pair(ring, other)
    if pair is not None:
        return ("pair", pair)
    net = net_of(ring)
    tour = tuple([(line, 0) for line in range(len(ring))])
    return ("turns", _turns_between(net, tour, _tour_along(net, other)))


def _do_turns_lead(ring, other, row):
    """Whether it is a row of at most 200 turns that leads the ring to one like the other."""
    if not _is_row(row, len(ring) // 2):
        return False
    behind = ring
    for name in row:
        behind = turned_ring(behind, name)
    return least_form(behind) == least_form(other)


def is_turns_or_pair(ring, other, value):
    """Whether the value is such turns, or such a pair, with its word."""
    _check_rings(ring, other)
    if not isinstance(value, tuple) or len(value) != 2:
        return False
    word, told = value
    if word == "turns":
        return _do_turns_lead(ring, other, told)
    if word != "pair" or not are_below(told, len(ring) // 2):
        return False
    return _pairs_around(ring).get(told, 0) != _pairs_around(other).get(told, 0)


def signed_table(ring):
    """For each two chords that cross 1 if the first end of the one is ahead, else -1; 1 at equal places, else 0."""
    check_ring(ring)
    rows = []
    for name in range(len(ring) // 2):
        crossed = crossing(ring, name)
        row = [0] * (len(ring) // 2)
        row[name] = 1
        for other in crossed:
            row[other] = 1 if ring.index(name) < ring.index(other) else -1
        rows.append(tuple(row))
    return tuple(rows)


def _line_table(net):
    lines = list(net.lines)
    knots = list(range(1, net.knots))
    return tuple([tuple([(2 if v == w else 0) - lines.count((v, w)) for w in knots]) for v in knots])


def _check_led(net):
    check_net(net)
    if not net.is_led:
        raise Refused(("led",))


def line_table(net):
    """The line table, without the knot 0: 2 at equal places, less how many lines lead from the one to the other."""
    _check_led(net)
    return _line_table(net)


def _determinant(table):
    """The determinant of a line table, by rows added up without fractions."""
    rows, ahead = table, 1
    while rows:
        # What is divided by divides all of these; it is a leading determinant, which counts forests, so never 0.
        top, head = rows[0], rows[0][0]
        rows = [[(head * a - row[0] * b) // ahead for a, b in zip(row[1:], top[1:])] for row in rows[1:]]
        ahead = head
    return ahead


def led_count(net):
    """How many led tours there are."""
    _check_led(net)
    return _determinant(_line_table(net))
