"""Good splits, and the parts into which a web in one piece falls along them."""

from tiedanew.base.checks import are_pairs, is_below, number_with
from tiedanew.errors import InvalidOperation
from tiedanew.split.splits import is_split, splits
from tiedanew.web.webs import MOST_KNOTS, Web, beyond_lot, check_lot, check_one_piece, check_web, masks_of, pieces


def _far_side(web, lot):
    """The side without the knot 0, as a number with a bit for each of its knots."""
    return number_with(beyond_lot(web.knots, lot))


def _do_sides_cross(one, other):
    """Whether two splits cross, told by their sides without the knot 0: the other sides share that knot."""
    shared = one & other
    return shared not in (0, one, other)


def _is_crossed(side, sides):
    for other in sides:
        if _do_sides_cross(side, other):
            return True
    return False


def do_cross(web, one, other):
    """Whether two splits cross."""
    check_web(web)
    check_lot(web, one)
    check_lot(web, other)
    if not is_split(web, one) or not is_split(web, other):
        raise InvalidOperation("only splits are asked whether they cross")
    return _do_sides_cross(_far_side(web, one), _far_side(web, other))


def good_splits(web):
    """The ascending tuple of the splits that no split crosses."""
    check_one_piece(web)
    found = splits(web)
    sides = [_far_side(web, lot) for lot in found]
    return tuple([lot for lot, side in zip(found, sides) if not _is_crossed(side, sides)])


def split_count(web):
    """How many splits there are."""
    check_one_piece(web)
    return len(splits(web))


def _lot_of_end(web, far, end, below):
    """The knots that the end stands for in the part of the web below a good split, or of all."""
    word, k = end
    if word == 0:
        return (k,)
    return far[k] if far[k] != below else beyond_lot(web.knots, below)


def _ends_below(far, below, up):
    """The ends of the part that lies below: single knots, the greatest sides in it, and those up."""
    inner = [k for k, side in enumerate(far) if side != below and all([knot in below for knot in side])]
    top = [k for k in inner if not any([j != k and all([knot in far[j] for knot in far[k]]) for j in inner])]
    single = [knot for knot in below if not any([knot in far[k] for k in inner])]
    return tuple([(0, knot) for knot in single] + [(1, k) for k in sorted(top + up)])


def _word_of(many, ties):
    """The word for so many ends with these ties."""
    if len(ties) == many * (many - 1) // 2:
        return "tied"
    for hub in range(many):
        if len(ties) == many - 1 and all([hub in tie for tie in ties]):
            return "star"
    return "unsplit"


def _part_below(web, far, below, up):
    """The part that lies below: ends are tied if knots are for which they stand."""
    masks = masks_of(web)
    ends = _ends_below(far, below, up)
    lots = [_lot_of_end(web, far, end, below) for end in ends]
    ties = []
    for high in range(len(ends)):
        for low in range(high):
            if any([masks[one] >> other & 1 for one in lots[low] for other in lots[high]]):
                ties.append((low, high))
    return (_word_of(len(ends), ties), ends, tuple(sorted(ties)))


def parts(web):
    """The tuple of the parts, ascending by their ends."""
    # No good split crosses another one, so their sides without the knot 0 lie in one another like boxes:
    # one part is what a box holds beside lesser boxes, and one more what stands in no box.
    good = good_splits(web)
    far = [beyond_lot(web.knots, lot) for lot in good]
    found = [_part_below(web, far, side, [k]) for k, side in enumerate(far)]
    found.append(_part_below(web, far, tuple(range(web.knots)), []))
    return tuple(sorted(found, key=lambda part: part[1]))


def _is_end(value):
    if not isinstance(value, tuple) or len(value) != 2:
        return False
    return is_below(value[0], 2) and is_below(value[1], MOST_KNOTS)


def _is_formed(value):
    """Whether the value is a triple of anything, a tuple of ends, and ties between them."""
    if not isinstance(value, tuple) or len(value) != 3:
        return False
    _, ends, ties = value
    return isinstance(ends, tuple) and all([_is_end(end) for end in ends]) and are_pairs(ties, len(ends))


def _places_of(told):
    """For each end a list of the indices of the parts in which it stands."""
    places = {}
    for index, part in enumerate(told):
        for end in part[1]:
            places.setdefault(end, []).append(index)
    return places


def _is_tree(told, places):
    """Whether each knot from 0 on stands in one part, each marker in two, and the parts hang together as a tree."""
    knots = sorted([end[1] for end in places if end[0] == 0])
    if knots != list(range(len(knots))) or len(told) != len(places) - len(knots) + 1:
        return False
    if not all([len(places[end]) == 1 + end[0] for end in places]):
        return False
    reached = [0]
    for index in range(len(told)):
        # Each part that is reached adds those beside it; if these end, the parts do not hang together.
        if index == len(reached):
            return False
        part = told[reached[index]]
        for end in part[1]:
            reached = reached + [other for other in places[end] if other not in reached]
    return True


def _knots_behind(told, places, index, end):
    """The knots to which ties lead, through markers, from this end of the part with the index."""
    _, ends, ties = told[index]
    at = ends.index(end)
    knots = []
    for tie in ties:
        if at in tie:
            other = ends[sum(tie) - at]
            if other[0] == 0:
                knots.append(other[1])
            else:
                beyond = sum(places[other]) - index
                knots = knots + _knots_behind(told, places, beyond, other)
    return knots


def _web_together(told, places):
    """The web of parts that hang together as a tree."""
    ties = []
    for end in places:
        if end[0] == 0:
            knots = _knots_behind(told, places, places[end][0], end)
            ties = ties + [(end[1], knot) for knot in knots if end[1] < knot]
    many = len([end for end in places if end[0] == 0])
    return Web(many, tuple(sorted(ties)))


def _web_or_none(value):
    """The web of these parts, None if the value is what `parts` tells of no web."""
    if not isinstance(value, tuple) or not all([_is_formed(part) for part in value]):
        return None
    places = _places_of(value)
    if not _is_tree(value, places) or (0, 0) not in places:
        return None
    web = _web_together(value, places)
    # A web has its parts in one way alone, so words, sequence and numbers need not be looked at one by one.
    if len(pieces(web)) > 1 or parts(web) != value:
        return None
    return web


def put_together(told):
    """The web with these parts."""
    web = _web_or_none(told)
    if web is None:
        raise InvalidOperation("no web has these parts")
    return web


def are_parts(value):
    """Whether the value is what `parts` tells of some web."""
    return _web_or_none(value) is not None
