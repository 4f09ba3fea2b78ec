"""How many webs are kin to a web, and which."""

from itertools import permutations, product

from tiedanew.base.bits import pick_or_look, rank_of
from tiedanew.base.checks import are_all_once
from tiedanew.errors import TooMany
from tiedanew.kin.sums import is_good, kin_or_bar, member_basis
from tiedanew.web.choices import counts_of_choices
from tiedanew.web.webs import (
    Web, check_web, check_webs_alike, is_row_of_turns, lot_web, masks_of, pieces, renamed, turned_by, turned_masks,
    web_of_masks)

MOST_LISTED = 6


def choice_count(web):
    """T: how many free letters the web has."""
    check_web(web)
    # Letters are free just if the choices out, in, in with a loop for Z, X, Y have the nullity 0.
    return counts_of_choices(masks_of(web))[0]


def _self_count_of_piece(web):
    """S of a web in one piece."""
    basis = member_basis(web, web)
    # Each member has one bit at all knots, so whether it is good is seen at the first one.
    first = tuple([member[0] for member in basis])
    good = [each for each in product(range(2), range(2), range(2), range(2)) if is_good((each,))]
    led = [each for each in good if pick_or_look(first, each)[0] == "pick"]
    return len(led) << (len(basis) - rank_of(first))


def self_count(web):
    """S: how many good members lead the web to itself."""
    found = 1
    for lot in pieces(web):
        found = found * _self_count_of_piece(lot_web(web, lot))
    return found


def kin_count(web):
    """T / S: how many webs are kin to the web, this one too."""
    return choice_count(web) // self_count(web)


def _reached(first, does_go):
    """The list of all masks to which turns lead from the first ones, by way of such alone for which it is told so."""
    found, layer = {first: True}, [first]
    while layer:
        behind = []
        for masks in layer:
            for knot in range(len(masks)):
                more = turned_masks(masks, knot)
                if more not in found and does_go(more):
                    found[more] = True
                    behind.append(more)
        layer = behind
    return list(found)


def _all_kin(web):
    """The list of the masks of all kin webs."""
    return _reached(tuple(masks_of(web)), lambda masks: True)


def kin_webs(web):
    """The tuple of all kin webs, this one too, by ascending ties."""
    check_web(web)
    if web.knots > MOST_LISTED:
        raise TooMany(MOST_LISTED)
    ties = sorted([web_of_masks(masks).ties for masks in _all_kin(web)])
    return tuple([Web(web.knots, each) for each in ties])


def least_kin(web):
    """The first one of all kin webs."""
    return kin_webs(web)[0]


def are_all_kin(web, value):
    """Whether the value is a tuple of all kin webs, each once, and of nothing else."""
    check_web(web)
    if not isinstance(value, tuple) or len(value) != kin_count(web):
        return False
    if not all([isinstance(kin, Web) for kin in value]):
        return False
    told, first = {tuple(masks_of(kin)): True for kin in value}, tuple(masks_of(web))
    # As many unlike ones as there are kin are all of them if they are kin: then turns among them lead to each.
    return first in told and len(_reached(first, lambda masks: masks in told)) == len(value)


def _check_few(one, other):
    check_webs_alike(one, other)
    if one.knots > MOST_LISTED:
        raise TooMany(MOST_LISTED)


def _named_kin(one, other):
    kin = {masks: True for masks in _all_kin(other)}
    for order in permutations(range(one.knots)):
        named = renamed(one, order)
        if tuple(masks_of(named)) in kin:
            return (order, kin_or_bar(named, other)[1])
    return None


def named_kin(one, other):
    """A pair (order, row): the one, renamed by the order, is led to the other by the turns; None without one."""
    _check_few(one, other)
    return _named_kin(one, other)


def is_named_kin(one, other, value):
    """Whether the value is such a pair, or None where there is none."""
    _check_few(one, other)
    if value is None:
        return _named_kin(one, other) is None
    if not isinstance(value, tuple) or len(value) != 2:
        return False
    order, row = value
    if not are_all_once(order, one.knots) or not is_row_of_turns(one, row):
        return False
    return turned_by(renamed(one, order), row) == other
