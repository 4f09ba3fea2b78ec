"""Marks of the ends of chords, and the sums of a web that they keep."""

from tiedanew.base.bits import rank_of_numbers, solution_of
from tiedanew.base.checks import are_bits, is_ascending, is_below
from tiedanew.errors import InvalidMarks, InvalidNumber, Refused
from tiedanew.ring.rings import check_ring, ends_of
from tiedanew.web.webs import MOST_KNOTS, check_knot, check_lot, check_web, masks_of


def has_marks_form(value, many):
    """Whether the value is marks, right or not, for so many knots."""
    if not isinstance(value, tuple) or len(value) != many:
        return False
    return all([are_bits(row, many) and row[knot] == 0 for knot, row in enumerate(value)])


def check_marks(value):
    """InvalidMarks unless the value is marks, right or not, of 1 to 10 knots."""
    if not isinstance(value, tuple) or not 1 <= len(value) <= MOST_KNOTS or not has_marks_form(value, len(value)):
        raise InvalidMarks("marks are n tuples of n bits, 0 at equal places")


def check_marks_for(web, value):
    """InvalidMarks unless the value is marks, right or not, of as many knots as the web has."""
    if not has_marks_form(value, web.knots):
        raise InvalidMarks("marks are a tuple of bits for each knot, 0 at equal places")


def marks_of(ring):
    """The marks with 1 where the first end of the one chord lies between the ends of the other."""
    check_ring(ring)
    ends = [ends_of(ring, name) for name in range(len(ring) // 2)]
    return tuple([tuple([1 if low < first < high else 0 for first, _ in ends]) for low, high in ends])


def _sums_with(masks, knot):
    """The sums of a web that begin with the knot, but those of the ties."""
    found = []
    for low in range(len(masks)):
        for high in range(low + 1, len(masks)):
            # The knot itself is never near both of a pair that it is in, and near one if they are tied.
            tied, close = masks[low] >> high & 1, (masks[knot] >> low & 1) + (masks[knot] >> high & 1)
            if tied and close == 0:
                found.append((((knot, low), (knot, high)), 0))
            if not tied and close == 2:
                found.append((((knot, low), (knot, high), (low, high), (high, low)), 1))
    return found


def sums_of(web):
    """The tuple of all sums (members, bit): those of the ties, then all others by (v, w, x)."""
    check_web(web)
    masks = masks_of(web)
    found = [(((low, high), (high, low)), 1) for low, high in web.ties]
    for knot in range(web.knots):
        found = found + _sums_with(masks, knot)
    return tuple(found)


def _is_right(marks, members, bit):
    return sum([marks[knot][other] for knot, other in members]) % 2 == bit


def are_marks(web, value):
    """Whether the value is right marks for the web."""
    check_web(web)
    if not has_marks_form(value, web.knots):
        return False
    return all([_is_right(value, members, bit) for members, bit in sums_of(web)])


def _sum_numbers(web):
    """For each sum a number with a bit 1 for each of its members, as rows of knots * knots bits have it."""
    many, last = web.knots, web.knots * web.knots - 1
    return [sum([1 << (last - knot * many - other) for knot, other in members]) for members, _ in sums_of(web)]


def marks_or_bar(web):
    """("marks", marks) with right marks, or ("bar", indices) of sums that add up to 0 = 1."""
    check_web(web)
    many = web.knots
    word, told = solution_of(_sum_numbers(web), [bit for _, bit in sums_of(web)], many * many)
    if word == "bar":
        return ("bar", told)
    return ("marks", tuple([told[knot * many:(knot + 1) * many] for knot in range(many)]))


def _is_bar(web, value):
    """Whether these are indices of sums whose members stand evenly often, and whose bits sum to 1."""
    sums = sums_of(web)
    if not is_ascending(value, len(sums)):
        return False
    numbers, total = _sum_numbers(web), 0
    for index in value:
        total = total ^ numbers[index]
    return total == 0 and sum([sums[index][1] for index in value]) % 2 == 1


def is_marks_or_bar(web, value):
    """Whether the value is right marks, or a bar, with its word."""
    check_web(web)
    if not isinstance(value, tuple) or len(value) != 2:
        return False
    word, told = value
    if word == "marks":
        return are_marks(web, told)
    return word == "bar" and _is_bar(web, told)


def free_bits(web):
    """How many bits of right marks can be chosen, None if there are none."""
    check_web(web)
    if marks_or_bar(web)[0] == "bar":
        return None
    return web.knots * (web.knots - 1) - rank_of_numbers(_sum_numbers(web))


def _turned_where(marks, does_turn):
    """The marks, turned at each two unlike knots for which it is told so."""
    found = [list(row) for row in marks]
    for v in range(len(marks)):
        for w in range(len(marks)):
            if v != w and does_turn(v, w):
                found[v][w] = 1 - marks[v][w]
    return tuple([tuple(row) for row in found])


def exchanged_marks(web, marks, lot):
    """The marks behind first and last ends exchanged for the chords of the lot."""
    check_web(web)
    check_marks_for(web, marks)
    check_lot(web, lot)
    masks = masks_of(web)
    # Each of both knots can turn the bit: the first one always, the second one if they are tied.
    return _turned_where(marks, lambda v, w: (v in lot) != (w in lot and masks[v] >> w & 1 == 1))


def opposite_marks(marks):
    """All bits turned but those at equal places."""
    check_marks(marks)
    return _turned_where(marks, lambda v, w: True)


def _does_turn(masks, row, knot, v, w):
    """Whether a turn at the knot, whose marks are the row, turns the bit of v and w."""
    if knot in (v, w):
        return False
    first_near, second_near = masks[knot] >> v & 1 == 1, masks[knot] >> w & 1 == 1
    tied, within = masks[v] >> w & 1 == 1, row[w] == 1 and not second_near
    if first_near and second_near:
        return row[w] == 1
    if first_near:
        return within and not tied
    return row[v] == 1 and within and tied


def turned_marks(web, marks, knot):
    """The marks of the turned ring, of any marks."""
    check_web(web)
    check_marks_for(web, marks)
    check_knot(web, knot)
    masks = masks_of(web)
    return _turned_where(marks, lambda v, w: _does_turn(masks, marks[knot], knot, v, w))


def marks_left(marks, knot):
    """The marks without the knot."""
    check_marks(marks)
    if not is_below(knot, len(marks)):
        raise InvalidNumber(knot)
    if len(marks) == 1:
        raise Refused(("last",))
    rows = [row[:knot] + row[knot + 1:] for row in marks]
    return tuple(rows[:knot] + rows[knot + 1:])
