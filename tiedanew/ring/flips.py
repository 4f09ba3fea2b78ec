"""Shares of rings, and flips that lead to all rings of a web."""

from tiedanew.base.checks import are_below, is_ascending
from tiedanew.errors import InvalidOperation, TooMany
from tiedanew.ring.answers import forms_of
from tiedanew.ring.rings import check_ring, least_form, web_of

MOST_CHORDS = 5
MOST_FLIPS = 200
WORDS = ("reverse", "exchange", "both")


def _begun_ahead(ring):
    """For each place the number that has a bit 1 for each chord with just one end ahead of it."""
    found = [0]
    for name in ring:
        found.append(found[-1] ^ (1 << name))
    return found


def _is_cut(ring, value):
    if not are_below(value, len(ring) + 1) or len(value) != 4 or list(value) != sorted(value):
        return False
    # A chord that is begun at just one border of a stretch has one end in it.
    border = _begun_ahead(ring)
    a, b, c, d = value
    return border[a] ^ border[b] ^ border[c] ^ border[d] == 0


def is_cut(ring, value):
    """Whether the value is a cut of the ring."""
    check_ring(ring)
    return _is_cut(ring, value)


def _cuts(ring):
    border, many = _begun_ahead(ring), len(ring) + 1
    found = []
    for a in range(many):
        for b in range(a, many):
            for c in range(b, many):
                wanted = border[a] ^ border[b] ^ border[c]
                found = found + [(a, b, c, d) for d in range(c, many) if border[d] == wanted]
    return found


def cuts(ring):
    """The ascending tuple of all cuts."""
    check_ring(ring)
    return tuple(_cuts(ring))


def _check_cut(ring, cut):
    check_ring(ring)
    if not _is_cut(ring, cut):
        raise InvalidOperation("this is no cut of the ring")


def share_of(ring, cut):
    """The ascending tuple of the chords of the share."""
    _check_cut(ring, cut)
    a, b, c, d = cut
    return tuple(sorted(set(ring[a:b] + ring[c:d])))


def _flipped(ring, cut, word):
    a, b, c, d = cut
    first, second = ring[a:b], ring[c:d]
    if word != "exchange":
        first, second = first[::-1], second[::-1]
    if word != "reverse":
        first, second = second, first
    return ring[:a] + first + ring[b:c] + second + ring[d:]


def flipped(ring, cut, word):
    """The ring of the flip with this word."""
    _check_cut(ring, cut)
    if word not in WORDS:
        raise InvalidOperation("a flip is reverse, exchange or both")
    return _flipped(ring, cut, word)


def rings_of(web):
    """The ascending tuple of the forms of all rings of the web."""
    return forms_of(web)


def _check_both(one, other):
    check_ring(one)
    check_ring(other)
    if len(one) != len(other):
        raise InvalidOperation("rings with unlike numbers of chords")
    if len(one) > 2 * MOST_CHORDS:
        raise TooMany(MOST_CHORDS)


def _flips_from(ring):
    """All rings that one flip makes of the ring, each with one flip that makes it."""
    found = {}
    for cut in _cuts(ring):
        for word in WORDS:
            found.setdefault(_flipped(ring, cut, word), (cut, word))
    return found


def _flips_between(one, other):
    """Flips that lead the one ring to one like the other, found in all sequences, the shortest ones first."""
    goal = least_form(other)
    # Like rings are flipped alike, so one of each form is enough.
    rows, layer = {least_form(one): ()}, [(one, ())]
    while goal not in rows:
        behind = []
        for ring, row in layer:
            for more, flip in _flips_from(ring).items():
                form = least_form(more)
                if form not in rows:
                    rows[form] = row + (flip,)
                    behind.append((more, rows[form]))
        layer = behind
    return rows[goal]


def flips_or_pair(one, other):
    """("flips", row) with flips that lead the one ring to one like the other, or ("pair", v, w) of chords."""
    _check_both(one, other)
    unlike = sorted(set(web_of(one).ties) ^ set(web_of(other).ties))
    if unlike:
        return ("pair",) + unlike[0]
    return ("flips", _flips_between(one, other))


def _are_flips(one, other, row):
    """Whether these are at most 200 flips that lead the one ring to one like the other."""
    if not isinstance(row, tuple) or len(row) > MOST_FLIPS:
        return False
    ring = one
    for flip in row:
        if not isinstance(flip, tuple) or len(flip) != 2:
            return False
        if not _is_cut(ring, flip[0]) or flip[1] not in WORDS:
            return False
        ring = _flipped(ring, flip[0], flip[1])
    return least_form(ring) == least_form(other)


def is_flips_or_pair(one, other, value):
    """Whether the value is such flips, or a pair of chords that cross in just one of both rings."""
    _check_both(one, other)
    if not isinstance(value, tuple) or len(value) not in (2, 3):
        return False
    if len(value) == 2:
        return value[0] == "flips" and _are_flips(one, other, value[1])
    pair = value[1:]
    if value[0] != "pair" or not is_ascending(pair, len(one) // 2):
        return False
    return (pair in web_of(one).ties) != (pair in web_of(other).ties)
