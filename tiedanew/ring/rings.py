"""Rings of chord ends, and what turns make of them."""

from tiedanew.base.checks import are_all_once, is_ascending, is_below, is_whole
from tiedanew.errors import InvalidLot, InvalidNumber, InvalidOperation, InvalidRing, Refused, TooMany
from tiedanew.web.webs import MOST_KNOTS, Web, beyond_lot


def is_ring(value):
    """Whether the value is a tuple in which each of 0 to n - 1 stands twice, n from 1 to 10."""
    if not isinstance(value, tuple) or not all([is_whole(name) for name in value]):
        return False
    many = len(value) // 2
    return 1 <= many <= MOST_KNOTS and sorted(value) == sorted(list(range(many)) * 2)


def check_ring(value):
    """InvalidRing unless the value is a ring."""
    if not is_ring(value):
        raise InvalidRing("a ring has each of its names twice")


def _check_name(ring, name):
    if not is_below(name, len(ring) // 2):
        raise InvalidNumber(name)


def _ends(ring, name):
    first = ring.index(name)
    return (first, ring.index(name, first + 1))


def ends_of(ring, name):
    """The places of both ends of the chord, the first one ahead."""
    check_ring(ring)
    _check_name(ring, name)
    return _ends(ring, name)


def crossing(ring, name):
    """The ascending tuple of the chords that cross it."""
    check_ring(ring)
    _check_name(ring, name)
    first, last = _ends(ring, name)
    between = ring[first + 1:last]
    return tuple([other for other in range(len(ring) // 2) if between.count(other) == 1])


def web_of(ring):
    """The web with a knot for each chord, and ties where chords cross."""
    check_ring(ring)
    many = len(ring) // 2
    ties = [(name, other) for name in range(many) for other in crossing(ring, name) if name < other]
    return Web(many, tuple(ties))


def turned_ring(ring, name):
    """The ring with the stretch between both ends of the chord reversed."""
    check_ring(ring)
    _check_name(ring, name)
    first, last = _ends(ring, name)
    return ring[:first] + ring[first:last + 1][::-1] + ring[last + 1:]


def swung_ring(ring, name, near):
    """The ring turned at name, near, name, which cross."""
    check_ring(ring)
    _check_name(ring, name)
    _check_name(ring, near)
    if near not in crossing(ring, name):
        raise Refused(("untied",))
    return turned_ring(turned_ring(turned_ring(ring, name), near), name)


def left_out_ring(ring, name):
    """The ring without the chord, greater names told by one less."""
    check_ring(ring)
    _check_name(ring, name)
    if len(ring) == 2:
        raise Refused(("last",))
    return tuple([other - 1 if other > name else other for other in ring if other != name])


def turned_about(ring, by):
    """The ring that begins at this place."""
    check_ring(ring)
    if not is_below(by, len(ring)):
        raise InvalidNumber(by)
    return ring[by:] + ring[:by]


def mirrored(ring):
    """The ring read from behind."""
    check_ring(ring)
    return ring[::-1]


def least_form(ring):
    """The least ring to which turning about and reading from behind lead."""
    check_ring(ring)
    back = ring[::-1]
    like = [way[by:] + way[:by] for way in (ring, back) for by in range(len(ring))]
    return min(like)


def _named(stretch, names):
    """The stretch with names[v] for each v."""
    return tuple([names[name] for name in stretch])


def renamed_ring(ring, order):
    """The ring with the name order[v] for each chord v."""
    check_ring(ring)
    if not are_all_once(order, len(ring) // 2):
        raise InvalidOperation("an order is a tuple of all names, each once")
    return _named(ring, order)


def rings_beside(one, other):
    """The one ring, and behind it the other one, its names going on."""
    check_ring(one)
    check_ring(other)
    many = len(one) // 2
    if many + len(other) // 2 > MOST_KNOTS:
        raise TooMany(MOST_KNOTS)
    return one + tuple([name + many for name in other])


def _around_marker(ring):
    """Both stretches of the ring but its last chord: that between its ends, and that round from behind them."""
    first, last = _ends(ring, len(ring) // 2 - 1)
    return (ring[first + 1:last], ring[last + 1:] + ring[:first])


def rings_joined(one, other, lot):
    """Both rings joined at their last chords; the chords of the one have the names of the lot."""
    check_ring(one)
    check_ring(other)
    # How great names can be is asked later, but for the digits that integers can have.
    if not is_ascending(lot, 10 ** 60):
        raise InvalidLot("a lot is an ascending tuple of integers from 0 on")
    if len(one) == 2 or len(other) == 2:
        raise Refused(("last",))
    many = len(one) // 2 + len(other) // 2 - 2
    if len(lot) != len(one) // 2 - 1 or not is_ascending(lot, many):
        raise InvalidLot("the lot names the chords of the one ring but its marker")
    if many > MOST_KNOTS:
        raise TooMany(MOST_KNOTS)
    beyond = beyond_lot(many, lot)
    within, round_about = _around_marker(one)
    other_within, other_about = _around_marker(other)
    return _named(within, lot) + _named(other_within, beyond) + _named(round_about, lot) + _named(other_about, beyond)
