"""Knots chosen to be out, in, or in with a loop; nullities of such choices, and how many there are of each."""

from tiedanew.base.bits import rank_of_numbers
from tiedanew.base.checks import number_with, ones_of
from tiedanew.web.webs import turned_masks


def nullity(masks, lot, loops):
    """How many knots the lot has, less the rank of its table, which has 1 at the equal places of the loops."""
    columns = number_with(lot)
    rows = [(masks[knot] & columns) + (1 << knot if knot in loops else 0) for knot in lot]
    return len(lot) - rank_of_numbers(rows)


def nullity_of_choices(masks, choices):
    """The nullity where each knot is out, in, or in with a loop, as 0, 1 or 2 tells."""
    lot = [knot for knot, choice in enumerate(choices) if choice > 0]
    return nullity(masks, lot, [knot for knot in lot if choices[knot] == 2])


def _without_last(masks):
    last = len(masks) - 1
    return tuple([mask & ((1 << last) - 1) for mask in masks[:last]])


def _lessened(masks):
    """Masks without the last knot, and for each how many choices at this knot add 0, 1 to their nullities.

    Of a tied knot being out, in with a loop, and in come the webs left by the three ways to leave it.
    """
    last = len(masks) - 1
    if masks[last] == 0:
        return [(_without_last(masks), (2, 1))]
    behind = turned_masks(masks, last)
    other = ones_of(masks[last], last)[0]
    webs = (masks, behind, turned_masks(turned_masks(behind, other), last))
    return [(_without_last(web), (1, 0)) for web in webs]


def _added(counts, more, by):
    """The counts, and the further ones so many times, and so many times a place on."""
    shifted = (0,) + more[:-1]
    return tuple([old + same * by[0] + up * by[1] for old, same, up in zip(counts, more, shifted)])


def counts_of_choices(masks):
    """For each number from 0 to n how many of the 3 ** n choices have this nullity."""
    many = len(masks)
    noughts = (0,) * (many + 1)
    layer = {tuple(masks): (1,) + noughts[1:]}
    # The same webs come up again and again, so each one is lessened just once.
    for _ in range(many):
        behind = {}
        for ahead, counts in layer.items():
            for web, by in _lessened(ahead):
                behind[web] = _added(behind.get(web, noughts), counts, by)
        layer = behind
    return layer[()]
