"""Orders of twigs and twins, or steps to a round of five."""

from tiedanew.base.checks import are_all_once, is_below, ones_of
from tiedanew.errors import InvalidOperation, TooMany
from tiedanew.lesser.search import steps_down, turns_until
from tiedanew.lesser.steps import is_steps, web_behind
from tiedanew.web.webs import MOST_KNOTS, Web, check_knot, check_web, masks_of, near, web_of_masks

WORDS = ("alone", "leaf", "tied", "untied")


def _rows_of_pair(masks, knot, other):
    """The rows of the knot with the other one."""
    rows, pair = [], (1 << knot) + (1 << other)
    if masks[knot] == 1 << other:
        rows.append((knot, "leaf", other))
    if masks[knot] | pair == masks[other] | pair:
        rows.append((knot, "tied" if masks[knot] >> other & 1 else "untied", other))
    return rows


def _rows_left(masks, knots):
    """The ascending list of all rows of the web of these knots alone, which keep their names."""
    left = sum([1 << knot for knot in knots])
    held = [mask & left for mask in masks]
    rows = [(knot, "alone", knot) for knot in knots if held[knot] == 0]
    for knot in knots:
        for other in knots:
            if other != knot:
                rows = rows + _rows_of_pair(held, knot, other)
    return sorted(rows)


def loose_rows(web):
    """The ascending tuple of all rows of the web."""
    check_web(web)
    return tuple(_rows_left(masks_of(web), list(range(web.knots))))


def _check_word(word):
    if word not in WORDS:
        raise InvalidOperation("a word is alone, leaf, tied or untied")


def _close_to(word, other, close):
    """The knots near one that stands so to the other one, to which these are near."""
    if word == "alone":
        return ()
    if word == "leaf":
        return (other,)
    return close + (other,) if word == "tied" else close


def grown(web, word, other):
    """The web with one knot more, the last one, which stands so to the other knot."""
    check_web(web)
    _check_word(word)
    check_knot(web, other)
    if web.knots == MOST_KNOTS:
        raise TooMany(MOST_KNOTS)
    close = _close_to(word, other, near(web, other))
    return Web(web.knots + 1, tuple(sorted(web.ties + tuple([(knot, web.knots) for knot in close]))))


def _is_row(value, many):
    """Whether the value is a row of knots of so many, one knot twice just for the word alone."""
    if not isinstance(value, tuple) or len(value) != 3:
        return False
    knot, word, other = value
    if not is_below(knot, many) or not is_below(other, many) or word not in WORDS:
        return False
    return (word == "alone") == (knot == other)


def _is_order(value):
    """Whether the value is an order of some web."""
    if not isinstance(value, tuple) or not 1 <= len(value) <= MOST_KNOTS:
        return False
    if not all([_is_row(row, len(value)) for row in value]):
        return False
    knots = tuple([row[0] for row in value])
    if not are_all_once(knots, len(value)):
        return False
    # A row's other knot comes in a later row; for the word alone it is its own.
    return all([row[2] in knots[k:] for k, row in enumerate(value)])


def _check_order(order):
    if not _is_order(order):
        raise InvalidOperation("an order is a row for each knot, with a knot of a later row")


def _web_in_order(order):
    """The web into which the knots are put from the last row to the first one."""
    masks = [0] * len(order)
    for knot, word, other in reversed(order):
        for close in _close_to(word, other, ones_of(masks[other], len(masks))):
            masks[knot] += 1 << close
            masks[close] += 1 << knot
    return web_of_masks(masks)


def web_of_order(order):
    """The one web of which this is an order."""
    _check_order(order)
    return _web_in_order(order)


def is_order(web, value):
    """Whether the value is an order of the web."""
    check_web(web)
    return _is_order(value) and _web_in_order(value) == web


def first_order(web):
    """The order whose rows are the least ones of the knots left, None if there is none."""
    check_web(web)
    masks, left, order = masks_of(web), list(range(web.knots)), ()
    while left:
        rows = _rows_left(masks, left)
        if not rows:
            return None
        order = order + (rows[0],)
        left = [knot for knot in left if knot != rows[0][0]]
    return order


def bundles(order):
    """The bundles, row by row."""
    _check_order(order)
    lots, found = {row[0]: (row[0],) for row in order}, []
    for knot, _, other in order:
        lot = tuple(sorted(lots[knot]))
        found.append(lot)
        if other != knot:
            lots[other] = lots[other] + lot
    return tuple(found)


def _is_round_of_five(masks):
    return len(masks) == 5 and all([len(ones_of(mask, 5)) == 2 for mask in masks])


def order_or_five(web):
    """("order", order), or ("five", steps) with steps to a round of five."""
    order = first_order(web)
    if order is not None:
        return ("order", order)
    steps = steps_down(web, lambda lesser: first_order(lesser) is None)
    return ("five", steps + turns_until(web_behind(web, steps), _is_round_of_five))


def is_order_or_five(web, value):
    """Whether the value is an order of the web, or steps to a round of five, with its word."""
    check_web(web)
    if not isinstance(value, tuple) or len(value) != 2:
        return False
    word, told = value
    if word == "order":
        return is_order(web, told)
    return word == "five" and is_steps(web, told) and _is_round_of_five(masks_of(web_behind(web, told)))
