"""A ring whose web it is, or steps to one of three cores."""

from tiedanew.base.checks import are_all_once
from tiedanew.errors import UnknownName
from tiedanew.lesser.search import steps_down, turns_until, ways_from
from tiedanew.lesser.steps import is_steps, web_behind
from tiedanew.ring.answers import has_ring, is_ring_of, ring_or_bar
from tiedanew.web.webs import Web, check_web, masks_of, renamed

CORES = ("five", "six", "seven")
MOST_TOLD = 60


def _hub_and_round(hub, first, many, near_hub):
    """The web of a hub tied to these knots, and a round of so many from the first one on."""
    last = first + many - 1
    ties = [(knot, knot + 1) for knot in range(first, last)] + [(first, last)]
    ties = ties + [(min(hub, knot), max(hub, knot)) for knot in near_hub]
    return Web(many + 1, tuple(sorted(ties)))


def core(word):
    """The core of this word."""
    if word not in CORES:
        raise UnknownName(word)
    if word == "six":
        return _hub_and_round(6, 0, 6, (0, 2, 4))
    many = 5 if word == "five" else 7
    return _hub_and_round(0, 1, many, tuple(range(1, many + 1)))


def _word_for(many):
    """The word of the core with so many knots, None if there is none."""
    return CORES[many - 6] if many in (6, 7, 8) else None


def _degrees(masks):
    return sorted([sum([mask >> knot & 1 for knot in range(len(masks))]) for mask in masks])


def _order_on(masks, goal, order):
    """An order to the goal that goes on so for the further knots, None if there is none."""
    knot = len(order)
    if knot == len(masks):
        return order
    for name in range(len(masks)):
        if name not in order and all([masks[knot] >> k & 1 == goal[name] >> order[k] & 1 for k in range(knot)]):
            found = _order_on(masks, goal, order + (name,))
            if found is not None:
                return found
    return None


def _order_to(masks, goal):
    """An order by which names lead these masks to the goal's, None if there is none."""
    if _degrees(masks) != _degrees(goal):
        return None
    return _order_on(masks, goal, ())


def core_word(web):
    """The word of the core that the web is, up to names; None if it is none."""
    check_web(web)
    word = _word_for(web.knots)
    if word is None or _order_to(masks_of(web), masks_of(core(word))) is None:
        return None
    return word


def is_least(web):
    """Whether no ring has the web, but rings have all webs behind the three ways at its knots."""
    if has_ring(web):
        return False
    return all([has_ring(web_behind(web, steps)) for steps in ways_from(web)])


def least_word(web):
    """The word of the core to which the web is kin, up to names; None if there is none."""
    # Just the kin of the cores, up to names, are least, and the cores have unlike numbers of knots.
    return _word_for(web.knots) if is_least(web) else None


def _core_paper(web):
    """The paper of a web that is that of no ring."""
    steps = steps_down(web, lambda lesser: not has_ring(lesser))
    least = web_behind(web, steps)
    word = _word_for(least.knots)
    goal = masks_of(core(word))
    steps = steps + turns_until(least, lambda masks: _order_to(masks, goal) is not None)
    return ("core", word, steps, _order_to(masks_of(web_behind(web, steps)), goal))


def ring_or_core(web):
    """("ring", ring) with a ring that has the web, or ("core", word, steps, order)."""
    word, told = ring_or_bar(web)
    if word == "ring":
        return ("ring", told)
    return _core_paper(web)


def is_ring_or_core(web, value):
    """Whether the value is a ring that has the web, or steps and an order to a core, with its words."""
    check_web(web)
    if not isinstance(value, tuple) or len(value) not in (2, 4):
        return False
    if len(value) == 2:
        return value[0] == "ring" and is_ring_of(web, value[1])
    word, name, steps, order = value
    if word != "core" or name not in CORES or not is_steps(web, steps):
        return False
    behind = web_behind(web, steps)
    return are_all_once(order, behind.knots) and renamed(behind, order) == core(name)
