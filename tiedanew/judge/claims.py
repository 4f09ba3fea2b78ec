"""Claims, each with its opposite, and one judge of the papers for them."""

from tiedanew.base.bits import are_rows, is_solved, solved
from tiedanew.base.checks import are_bits
from tiedanew.errors import InvalidClaim
from tiedanew.kin.sums import is_kin_or_bar, kin_or_bar
from tiedanew.lesser.cores import is_ring_or_core
from tiedanew.lesser.twigs import is_order_or_five, order_or_five
from tiedanew.ring.answers import is_ring_or_bar, ring_or_bar
from tiedanew.split.splits import is_split, split_or_none
from tiedanew.web.webs import Web, pieces

OPPOSITES = {
    "asked": "barred", "barred": "asked", "split": "unsplit", "unsplit": "split", "ring": "ringless",
    "ringless": "ring", "order": "round", "round": "order", "kin": "strange", "strange": "kin"}


def is_claim(value):
    """Whether the value is a claim."""
    if not isinstance(value, tuple) or not value or not isinstance(value[0], str) or value[0] not in OPPOSITES:
        return False
    word, rest = value[0], value[1:]
    if word in ("asked", "barred"):
        return len(rest) == 2 and are_rows(rest[0]) and len(rest[0]) > 0 and are_bits(rest[1], len(rest[0]))
    if not all([isinstance(web, Web) for web in rest]):
        return False
    if word in ("kin", "strange"):
        return len(rest) == 2 and rest[0].knots == rest[1].knots
    if len(rest) != 1:
        return False
    return word not in ("split", "unsplit") or (rest[0].knots >= 5 and len(pieces(rest[0])) == 1)


def _check_claim(value):
    if not is_claim(value):
        raise InvalidClaim("this is no claim")


def opposite(claim):
    """The claim with the other word of its line."""
    _check_claim(claim)
    return (OPPOSITES[claim[0]],) + claim[1:]


def _begins_with(paper, words):
    return isinstance(paper, tuple) and len(paper) > 0 and paper[0] in words


def _takes_of_web(word, web, paper):
    """Whether it is a paper for the claim of this word and this web."""
    if word == "split":
        return is_split(web, paper)
    if word == "unsplit":
        return paper == () and split_or_none(web) is None
    if word == "ring":
        return is_ring_or_bar(web, ("ring", paper))
    if word == "ringless":
        if _begins_with(paper, ("bar",)):
            return is_ring_or_bar(web, paper)
        return _begins_with(paper, ("core",)) and is_ring_or_core(web, paper)
    return is_order_or_five(web, ("order" if word == "order" else "five", paper))


def takes(claim, paper):
    """Whether the value is a paper for the claim."""
    _check_claim(claim)
    word, rest = claim[0], claim[1:]
    if word in ("asked", "barred"):
        return is_solved(rest[0], rest[1], ("bits" if word == "asked" else "bar", paper))
    if word == "kin":
        return is_kin_or_bar(rest[0], rest[1], ("turns", paper))
    if word == "strange":
        return _begins_with(paper, ("cut", "none")) and is_kin_or_bar(rest[0], rest[1], paper)
    return _takes_of_web(word, rest[0], paper)


def _answer_of_web(word, web):
    """The true word of this one and its opposite, and a paper."""
    if word in ("split", "unsplit"):
        lot = split_or_none(web)
        return ("unsplit", ()) if lot is None else ("split", lot)
    if word in ("ring", "ringless"):
        paper = ring_or_bar(web)
        return ("ring", paper[1]) if paper[0] == "ring" else ("ringless", paper)
    told, paper = order_or_five(web)
    return ("order" if told == "order" else "round", paper)


def _answer(word, rest):
    """The true word of this one and its opposite for the rest of the claim, and a paper."""
    if word in ("asked", "barred"):
        told, paper = solved(rest[0], rest[1])
        return ("asked" if told == "bits" else "barred", paper)
    if word in ("kin", "strange"):
        paper = kin_or_bar(rest[0], rest[1])
        return ("kin", paper[1]) if paper[0] == "turns" else ("strange", paper)
    return _answer_of_web(word, rest[0])


def answered(claim):
    """The true one of the claim and its opposite, and a paper for it."""
    _check_claim(claim)
    word, paper = _answer(claim[0], claim[1:])
    return ((word,) + claim[1:], paper)
