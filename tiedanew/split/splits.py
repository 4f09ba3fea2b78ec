"""Splits of webs, and webs parted along them."""

from tiedanew.base.checks import is_ascending
from tiedanew.errors import InvalidLot, InvalidOperation, TooMany
from tiedanew.web.cuts import cut_rank, cut_ranks, lot_without_first
from tiedanew.web.webs import MOST_KNOTS, Web, beyond_lot, check_lot, check_web, lot_web, masks_of, near, pieces


def is_split(web, value):
    """Whether the value is a split, told by the side with the knot 0."""
    check_web(web)
    if not is_ascending(value, web.knots) or 0 not in value:
        return False
    return 2 <= len(value) <= web.knots - 2 and cut_rank(web, value) <= 1


def splits(web):
    """The ascending tuple of all splits."""
    check_web(web)
    beyond = [lot_without_first(index) for index, rank in enumerate(cut_ranks(web)) if rank <= 1]
    return tuple(sorted([beyond_lot(web.knots, lot) for lot in beyond if 2 <= len(lot) <= web.knots - 2]))


def split_or_none(web):
    """A split, None if there is none."""
    return min(splits(web), default=None)


def is_split_or_none(web, value):
    """Whether the value is a split, or None where there is none."""
    check_web(web)
    if value is None:
        return splits(web) == ()
    return is_split(web, value)


def is_unsplit(web):
    """Whether the web has at least five knots, is in one piece and has no split."""
    check_web(web)
    return web.knots >= 5 and len(pieces(web)) == 1 and splits(web) == ()


def leaves(web):
    """The ascending tuple of the pairs (leaf, stem)."""
    check_web(web)
    close = [near(web, knot) for knot in range(web.knots)]
    return tuple([(knot, stems[0]) for knot, stems in enumerate(close) if len(stems) == 1])


def _are_twins(masks, low, high):
    # The bits of the pair itself are set in both, as it does not matter whether they are tied.
    pair = (1 << low) + (1 << high)
    return (masks[low] | pair) == (masks[high] | pair)


def twins(web):
    """The ascending tuple of the pairs of twins."""
    check_web(web)
    masks = masks_of(web)
    pairs = [(low, high) for low in range(web.knots) for high in range(low + 1, web.knots)]
    return tuple([(low, high) for low, high in pairs if _are_twins(masks, low, high)])


def _marked(web, lot):
    """The web of the lot, and a last knot that is tied to those that are tied to some beyond."""
    border = [k for k, knot in enumerate(lot) if any([other not in lot for other in near(web, knot)])]
    ties = lot_web(web, lot).ties + tuple([(k, len(lot)) for k in border])
    return Web(len(lot) + 1, tuple(sorted(ties)))


def parted(web, lot):
    """Both webs along the split, each with its marker as the last knot."""
    check_web(web)
    check_lot(web, lot)
    if not is_split(web, lot):
        raise InvalidOperation("a web is parted along a split")
    return (_marked(web, lot), _marked(web, beyond_lot(web.knots, lot)))


def _joined_ties(one, other, lot, beyond):
    """The ties of the web in which the knots of both webs but the markers have the names of lot and beyond."""
    ties = [(lot[low], lot[high]) for low, high in one.ties if high < len(lot)]
    ties = ties + [(beyond[low], beyond[high]) for low, high in other.ties if high < len(beyond)]
    for knot in near(one, len(lot)):
        for far in near(other, len(beyond)):
            ties.append((min(lot[knot], beyond[far]), max(lot[knot], beyond[far])))
    return tuple(sorted(ties))


def joined_at(one, other, lot):
    """The web of both, joined by their markers; the knots of the one have the names of the lot."""
    check_web(one)
    check_web(other)
    if one.knots < 2 or other.knots < 2:
        raise InvalidOperation("a marker alone can't be joined")
    many = one.knots + other.knots - 2
    if not is_ascending(lot, many) or len(lot) != one.knots - 1:
        raise InvalidLot("the lot names the knots of the one web but its marker")
    if many > MOST_KNOTS:
        raise TooMany(MOST_KNOTS)
    return Web(many, _joined_ties(one, other, lot, beyond_lot(many, lot)))
