"""A ring whose web it is, or a bar to it."""

from tiedanew.base.checks import is_whole
from tiedanew.errors import InvalidNumber, TooMany
from tiedanew.ring.found import ring_by, rings_begun
from tiedanew.ring.marks import is_marks_or_bar, marks_or_bar
from tiedanew.ring.rings import is_ring, least_form, renamed_ring, rings_beside, rings_joined, web_of
from tiedanew.split.splits import parted, split_or_none
from tiedanew.web.webs import MOST_KNOTS, check_web, lot_web, pieces

MOST_LISTED = 5


def _ring_of_piece(web):
    """A ring of a web in one piece that has right marks."""
    lot = split_or_none(web)
    if lot is not None:
        one, other = parted(web, lot)
        return rings_joined(_ring_of_piece(one), _ring_of_piece(other), lot)
    # In one piece without a split it has three knots at most, or it is unsplit: then its marks are those of a ring.
    if web.knots <= 3:
        return rings_begun(web)[0]
    return ring_by(web, marks_or_bar(web)[1])[1]


def _ring_of(web):
    """A ring of a web that has right marks: those of its pieces side by side."""
    lots = pieces(web)
    ring, names = _ring_of_piece(lot_web(web, lots[0])), lots[0]
    for lot in lots[1:]:
        ring, names = rings_beside(ring, _ring_of_piece(lot_web(web, lot))), names + lot
    return renamed_ring(ring, names)


def ring_or_bar(web):
    """("ring", ring) with a ring whose web it is, or ("bar", indices) of sums that add up to 0 = 1."""
    word, told = marks_or_bar(web)
    if word == "bar":
        return ("bar", told)
    return ("ring", _ring_of(web))


def is_ring_of(web, value):
    """Whether the value is a ring whose web it is."""
    return is_ring(value) and web_of(value) == web


def is_ring_or_bar(web, value):
    """Whether the value is a ring whose web it is, or a bar, with its word."""
    check_web(web)
    if not isinstance(value, tuple) or len(value) != 2:
        return False
    word, told = value
    if word == "ring":
        return is_ring_of(web, told)
    return word == "bar" and is_marks_or_bar(web, value)


def has_ring(web):
    """Whether there is a ring whose web it is."""
    return marks_or_bar(web)[0] == "marks"


def forms_of(web):
    """The ascending tuple of the forms of all rings whose web it is."""
    check_web(web)
    if web.knots > MOST_LISTED:
        raise TooMany(MOST_LISTED)
    return tuple(sorted(set([least_form(ring) for ring in rings_begun(web)])))


def _check_many(many):
    if not is_whole(many) or not 1 <= many <= MOST_KNOTS:
        raise InvalidNumber(many)


def star_ring(many):
    """The ring of a star whose hub is 0: 0, the others ascending, 0, the others descending."""
    _check_many(many)
    others = tuple(range(1, many))
    return (0,) + others + (0,) + others[::-1]


def tied_ring(many):
    """The ring of a web all tied: all ascending, twice."""
    _check_many(many)
    return tuple(range(many)) * 2
