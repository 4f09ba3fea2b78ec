"""Cut ranks of lots of knots, which turns keep."""

from tiedanew.base.bits import rank_of_numbers
from tiedanew.base.checks import is_ascending, number_with, ones_of
from tiedanew.web.webs import beyond_lot, check_lot, check_web, check_webs_alike, masks_of


def _rank_between(masks, knots, others):
    """The rank of the table with rows for the knots and columns for the others."""
    columns = number_with(others)
    return rank_of_numbers([masks[knot] & columns for knot in knots])


def cut_table(web, lot):
    """A row of bits for each knot of the lot, with a bit for each knot beyond it."""
    check_web(web)
    check_lot(web, lot)
    beyond = beyond_lot(web.knots, lot)
    if not beyond:
        return ()
    masks = masks_of(web)
    return tuple([tuple([masks[knot] >> other & 1 for other in beyond]) for knot in lot])


def cut_rank(web, lot):
    """The rank of the cut table modulo 2."""
    check_web(web)
    check_lot(web, lot)
    return _rank_between(masks_of(web), lot, beyond_lot(web.knots, lot))


def lot_without_first(index):
    """The lot without the knot 0 to which this index belongs in the tuple of cut ranks."""
    return ones_of(index * 2, (index * 2).bit_length())


def cut_ranks(web):
    """The cut ranks of all lots without the knot 0."""
    check_web(web)
    masks = masks_of(web)
    lots = [lot_without_first(index) for index in range(1 << (web.knots - 1))]
    return tuple([_rank_between(masks, lot, beyond_lot(web.knots, lot)) for lot in lots])


def unlike_cut(one, other):
    """The least lot without the knot 0 at which the cut ranks are unlike, None without one."""
    check_webs_alike(one, other)
    ranks, others = cut_ranks(one), cut_ranks(other)
    unlike = [lot_without_first(index) for index in range(len(ranks)) if ranks[index] != others[index]]
    return min(unlike, default=None)


def _independent(masks, knots, others):
    """Those of the knots, ascending, whose rows are no sum of rows ahead; columns stand at the others."""
    kept = ()
    for knot in knots:
        if _rank_between(masks, kept + (knot,), others) > len(kept):
            kept = kept + (knot,)
    return kept


def square_of(web, lot):
    """A square of the lot with as many knots as its cut rank."""
    check_web(web)
    check_lot(web, lot)
    masks, beyond = masks_of(web), beyond_lot(web.knots, lot)
    knots = _independent(masks, lot, beyond)
    return (knots, _independent(masks, beyond, knots))


def is_square(web, lot, value):
    """Whether the value is a square of the lot, of any number of knots."""
    check_web(web)
    check_lot(web, lot)
    if not isinstance(value, tuple) or len(value) != 2:
        return False
    knots, others = value
    if not is_ascending(knots, web.knots) or not is_ascending(others, web.knots):
        return False
    if len(knots) != len(others) or not all([knot in lot for knot in knots]):
        return False
    if any([other in lot for other in others]):
        return False
    return _rank_between(masks_of(web), knots, others) == len(knots)
