"""Counts of lots and of choices by their nullities, and the lesser webs whose counts they are."""

from tiedanew.base.checks import are_below, is_whole, ones_of
from tiedanew.errors import InvalidNumber, InvalidOperation, TooMany
from tiedanew.web.choices import counts_of_choices, nullity, nullity_of_choices
from tiedanew.web.webs import check_lot, check_web, left_out, masks_of, swung, turned

MOST_CHOSEN = 8
MOST_FREE = 6


def _check_chosen(web):
    if web.knots > MOST_CHOSEN:
        raise TooMany(MOST_CHOSEN)


def lot_nullity(web, lot):
    """How many knots the lot has, less the rank of the table with them as rows and as columns."""
    check_web(web)
    check_lot(web, lot)
    return nullity(masks_of(web), lot, ())


def choice_nullity(web, choices):
    """The nullity of the table of the knots that are in, with 1 at the equal places of those with a loop."""
    check_web(web)
    if not are_below(choices, 3) or len(choices) != web.knots:
        raise InvalidOperation("choices are 0, 1 or 2 for each knot")
    return nullity_of_choices(masks_of(web), choices)


def _lots(web):
    """All lots of the web's knots."""
    return [ones_of(number, web.knots) for number in range(1 << web.knots)]


def lot_counts(web):
    """For each number from 0 to n how many lots have this nullity."""
    check_web(web)
    masks, counts = masks_of(web), [0] * (web.knots + 1)
    for lot in _lots(web):
        counts[nullity(masks, lot, ())] += 1
    return tuple(counts)


def choice_counts(web):
    """For each number from 0 to n how many choices have this nullity."""
    check_web(web)
    _check_chosen(web)
    return counts_of_choices(masks_of(web))


def lessened(web, knot, other):
    """The web, and the web swung at both knots, each without the knot."""
    behind = swung(web, knot, other)
    return (left_out(web, knot), left_out(behind, knot))


def lessened_thrice(web, knot, other):
    """The web, the web turned at the knot, and the web swung at both knots, each without the knot."""
    without, without_swung = lessened(web, knot, other)
    return (without, left_out(turned(web, knot), knot), without_swung)


def _check_number(number):
    # As all integers that are passed, it can have sixty digits.
    if not is_whole(number) or not -(10 ** 60) < number < 10 ** 60:
        raise InvalidNumber(number)


def _value_at(counts, base):
    """The sum of all counts, each one times this power of the base."""
    total = 0
    for count in reversed(counts):
        total = total * base + count
    return total


def lot_value(web, number):
    """The sum of (number - 1) ** nullity of all lots."""
    check_web(web)
    _check_number(number)
    return _value_at(lot_counts(web), number - 1)


def choice_value(web, number):
    """The sum of (number - 2) ** nullity of all choices."""
    check_web(web)
    _check_number(number)
    return _value_at(choice_counts(web), number - 2)


def even_lots(web):
    """The ascending tuple of all lots each knot of which is near an even number of them."""
    check_web(web)
    masks, found = masks_of(web), []
    for lot in _lots(web):
        if all([sum([masks[knot] >> other & 1 for other in lot]) % 2 == 0 for knot in lot]):
            found.append(lot)
    return tuple(sorted(found))


def free_choices(web):
    """The ascending tuple of all choices of nullity 0."""
    check_web(web)
    if web.knots > MOST_FREE:
        raise TooMany(MOST_FREE)
    choices = [()]
    for _ in range(web.knots):
        choices = [ahead + (choice,) for ahead in choices for choice in range(3)]
    masks = masks_of(web)
    return tuple([each for each in choices if nullity_of_choices(masks, each) == 0])
