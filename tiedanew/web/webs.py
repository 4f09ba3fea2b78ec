"""Webs of knots and ties, and what turns make of them."""

from tiedanew.base.checks import are_all_once, are_below, are_pairs, is_ascending, is_below, is_whole, ones_of
from tiedanew.errors import InvalidLot, InvalidNumber, InvalidOperation, InvalidWeb, Refused, TooMany

MOST_KNOTS = 10
MOST_TURNS = 200


class Web:
    """Knots 0 to knots - 1, and ties between two of them."""

    def __init__(self, knots, ties):
        if not is_whole(knots) or not 1 <= knots <= MOST_KNOTS:
            raise InvalidWeb("a web has 1 to 10 knots")
        if not are_pairs(ties, knots):
            raise InvalidWeb("ties are an ascending tuple of pairs of knots, the lesser one ahead")
        self._knots = knots
        self._ties = ties

    @property
    def knots(self):
        """How many knots there are."""
        return self._knots

    @property
    def ties(self):
        """The ascending tuple of pairs of knots that are tied."""
        return self._ties

    def __eq__(self, other):
        return isinstance(other, Web) and self._knots == other._knots and self._ties == other._ties

    def __str__(self):
        return f"web of {self._knots} knots, {len(self._ties)} ties"


def check_web(value):
    """InvalidWeb unless the value is a web."""
    if not isinstance(value, Web):
        raise InvalidWeb("this is no web")


def check_webs_alike(one, other):
    """InvalidWeb unless both are webs, then InvalidOperation unless they have equally many knots."""
    check_web(one)
    check_web(other)
    if one.knots != other.knots:
        raise InvalidOperation("webs with unlike numbers of knots")


def check_knot(web, knot):
    """InvalidNumber unless this is a knot of the web."""
    if not is_below(knot, web.knots):
        raise InvalidNumber(knot)


def is_row_of_turns(web, value):
    """Whether the value is a tuple of at most 200 knots of the web."""
    return are_below(value, web.knots) and len(value) <= MOST_TURNS


def check_row(web, row):
    """InvalidOperation unless this is a tuple of at most 200 knots of the web."""
    if not is_row_of_turns(web, row):
        raise InvalidOperation("a row of turns is a tuple of at most 200 knots of the web")


def check_lot(web, lot):
    """InvalidLot unless this is an ascending tuple of knots of the web."""
    if not is_ascending(lot, web.knots):
        raise InvalidLot("a lot is an ascending tuple of knots of the web")


def masks_of(web):
    """For each knot the number that has the bit 2 ** w for each knot w near it."""
    masks = [0] * web.knots
    for low, high in web.ties:
        masks[low] += 1 << high
        masks[high] += 1 << low
    return masks


def turned_masks(masks, knot):
    """The masks of the web behind a turn at the knot: each one near it changes its ties to the others near it."""
    close = masks[knot]
    return tuple([mask ^ close ^ (1 << v) if close >> v & 1 else mask for v, mask in enumerate(masks)])


def web_of_masks(masks):
    """The web back from its masks."""
    many = len(masks)
    ties = [(low, high) for low in range(many) for high in range(low + 1, many) if masks[low] >> high & 1]
    return Web(many, tuple(ties))


def beyond_lot(many, lot):
    """The ascending tuple of the knots of so many that are not in the lot."""
    return tuple([knot for knot in range(many) if knot not in lot])


def _web_by(knots, pairs):
    """The web with ties between the two knots of each pair, in whatever sequence they come."""
    return Web(knots, tuple(sorted([(min(pair), max(pair)) for pair in pairs])))


def table_of(web):
    """For each knot a row of bits, with 1 at the knots near it."""
    check_web(web)
    return tuple([tuple([mask >> knot & 1 for knot in range(web.knots)]) for mask in masks_of(web)])


def near(web, knot):
    """The ascending tuple of the knots that are tied to the knot."""
    check_web(web)
    check_knot(web, knot)
    return tuple([sum(tie) - knot for tie in web.ties if knot in tie])


def turned(web, knot):
    """The web behind a turn at the knot."""
    close = near(web, knot)
    pairs = [(low, high) for low in close for high in close if low < high]
    return Web(web.knots, tuple(sorted(set(web.ties) ^ set(pairs))))


def turned_by(web, row):
    """The web behind the turns of the row, the first one ahead."""
    check_web(web)
    check_row(web, row)
    behind = web
    for knot in row:
        behind = turned(behind, knot)
    return behind


def swung(web, knot, other):
    """The web behind turns at knot, other, knot, which are tied."""
    check_web(web)
    check_knot(web, knot)
    check_knot(web, other)
    if knot == other:
        raise InvalidOperation("a web is swung at two knots")
    if other not in near(web, knot):
        raise Refused(("untied",))
    return turned_by(web, (knot, other, knot))


def left_out(web, knot):
    """The web without the knot, greater knots told by one less."""
    check_web(web)
    check_knot(web, knot)
    if web.knots == 1:
        raise Refused(("last",))
    return lot_web(web, beyond_lot(web.knots, (knot,)))


def lot_web(web, lot):
    """The web of the knots of the lot, numbered anew, with the ties between them."""
    check_web(web)
    check_lot(web, lot)
    if not lot:
        raise InvalidOperation("a web has one knot at least")
    ties = [(lot.index(low), lot.index(high)) for low, high in web.ties if low in lot and high in lot]
    return Web(len(lot), tuple(ties))


def renamed(web, order):
    """The web in which each knot v is called order[v]."""
    check_web(web)
    if not are_all_once(order, web.knots):
        raise InvalidOperation("an order is a tuple of all knots, each once")
    return _web_by(web.knots, [(order[low], order[high]) for low, high in web.ties])


def beside(one, other):
    """Both webs, the knots of the other one counted on behind those of the one."""
    check_web(one)
    check_web(other)
    if one.knots + other.knots > MOST_KNOTS:
        raise TooMany(MOST_KNOTS)
    ties = [(low + one.knots, high + one.knots) for low, high in other.ties]
    return Web(one.knots + other.knots, one.ties + tuple(ties))


def _piece_of(masks, knot):
    """The piece that the knot is in."""
    found, more = 0, 1 << knot
    while more != found:
        found = more
        for other in ones_of(found, len(masks)):
            more = more | masks[other]
    return ones_of(found, len(masks))


def pieces(web):
    """The ascending tuple of the pieces."""
    check_web(web)
    masks = masks_of(web)
    return tuple(sorted(set([_piece_of(masks, knot) for knot in range(web.knots)])))


def check_one_piece(web):
    """InvalidWeb unless it is a web, then Refused unless it is in one piece."""
    if len(pieces(web)) > 1:
        raise Refused(("pieces",))
