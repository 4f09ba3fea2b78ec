"""Rings out of marks: along a walk each chord finds its gaps, or there is no such ring."""

from tiedanew.base.bits import solution_of
from tiedanew.base.checks import is_ascending, is_below, ones_of
from tiedanew.errors import InvalidMarks, TooMany
from tiedanew.ring.marks import are_marks, check_marks_for, exchanged_marks, has_marks_form, marks_of, opposite_marks
from tiedanew.web.webs import check_one_piece, check_web, masks_of

MOST_LISTED = 5


def _walk(masks):
    """The walk of a web in one piece."""
    walk, near_walk = (0,), masks[0]
    while len(walk) < len(masks):
        following = min([knot for knot in ones_of(near_walk, len(masks)) if knot not in walk])
        walk, near_walk = walk + (following,), near_walk | masks[following]
    return walk


def walk_of(web):
    """The knots from 0 on, each time the least one that is near one ahead."""
    check_one_piece(web)
    return _walk(masks_of(web))


def _side(ends, name, at):
    """The side of the chord on which the place lies, or the gap behind it.

    The first end of the chord v is told as 2 v here, its last end as 2 v + 1.
    """
    first, many = ends.index(2 * name), len(ends)
    # The gap behind the first end lies on the side 1, that behind the last end does not.
    return 1 if (at - first) % many < (ends.index(2 * name + 1) - first) % many else 0


def _gap(ends, sides):
    """The gap that lies on the told side of each chord, told by the end ahead of it, None if there is none."""
    for at in range(len(ends)):
        if all([_side(ends, name, at) == side for name, side in sides]):
            return at
    return None


def _put_in(ends, name, first, last):
    """The ends with those of the chord behind these two places, which are unlike."""
    low, high = min(first, last) + 1, max(first, last) + 1
    lower = 2 * name if first < last else 2 * name + 1
    upper = 4 * name + 1 - lower
    return ends[:low] + (lower,) + ends[low:high] + (upper,) + ends[high:]


def _grown(web, marks):
    """`ring_by` for marks of a web in one piece."""
    masks = masks_of(web)
    walk, ends = _walk(masks), (0, 1)
    for k in range(1, len(walk)):
        name, ahead = walk[k], walk[:k]
        first = _gap(ends, [(v, marks[v][name]) for v in ahead])
        last = _gap(ends, [(v, marks[v][name] ^ (masks[v] >> name & 1)) for v in ahead])
        if first is None or last is None:
            return ("gap", name)
        ends = _put_in(ends, name, first, last)
        wrong = [v for v in ahead if _side(ends, name, ends.index(2 * v)) != marks[name][v]]
        if wrong:
            return ("back", name, min(wrong))
    return ("ring", tuple([end // 2 for end in ends]))


def ring_by(web, marks):
    """("ring", ring) with the ring of the marks, or ("gap", w), ("back", w, v) where the walk stands still."""
    check_web(web)
    check_marks_for(web, marks)
    check_one_piece(web)
    return _grown(web, marks)


def are_ring_marks(web, value):
    """Whether the value is the marks of a ring with this web, first ends being told as one likes."""
    check_one_piece(web)
    return has_marks_form(value, web.knots) and _grown(web, value)[0] == "ring"


def _with_chord(ring, name, mask):
    """All rings with one chord more, which crosses just those that the mask tells."""
    found = []
    for first in range(1, len(ring) + 1):
        for last in range(first, len(ring) + 1):
            between = ring[first:last]
            if all([between.count(other) % 2 == mask >> other & 1 for other in range(name)]):
                found.append(ring[:first] + (name,) + between + (name,) + ring[last:])
    return found


def rings_begun(web):
    """All rings with this web that begin with the chord 0."""
    rings, masks = [(0, 0)], masks_of(web)
    for name in range(1, web.knots):
        rings = [more for ring in rings for more in _with_chord(ring, name, masks[name])]
    return rings


def ring_marks(web):
    """The ascending tuple of all marks of rings with this web."""
    check_one_piece(web)
    if web.knots > MOST_LISTED:
        raise TooMany(MOST_LISTED)
    lots = [ones_of(number, web.knots) for number in range(1 << web.knots)]
    told = [marks_of(ring) for ring in rings_begun(web)]
    return tuple(sorted(set([exchanged_marks(web, marks, lot) for marks in told for lot in lots])))


def _check_both_right(web, one, other):
    if not are_marks(web, one) or not are_marks(web, other):
        raise InvalidMarks("these are no right marks for the web")
    check_one_piece(web)


def _between(web, one, other):
    """`marks_between`: each bit that differs is a sum of knots to exchange, and of the bit of opposite ones."""
    many, masks, numbers, goal = web.knots, masks_of(web), [], []
    for v in range(many):
        for w in range(many):
            if v != w:
                tied = masks[v] >> w & 1
                numbers.append((1 << (many - v)) + (tied << (many - w)) + 1)
                goal.append(one[v][w] ^ other[v][w])
    word, told = solution_of(numbers, goal, many + 1)
    if word == "bar":
        return None
    return (tuple([knot for knot in range(many) if told[knot]]), told[many])


def marks_between(web, one, other):
    """Knots whose ends, exchanged, and a bit whether made opposite, lead the one marks to the others; or None."""
    _check_both_right(web, one, other)
    return _between(web, one, other)


def is_marks_between(web, one, other, value):
    """Whether the value is such knots and bit, or None where there are none."""
    _check_both_right(web, one, other)
    if value is None:
        return _between(web, one, other) is None
    if not isinstance(value, tuple) or len(value) != 2:
        return False
    lot, bit = value
    if not is_ascending(lot, web.knots) or not is_below(bit, 2):
        return False
    behind = exchanged_marks(web, one, lot)
    return (opposite_marks(behind) if bit else behind) == other
