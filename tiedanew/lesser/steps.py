"""Steps to lesser webs, and the three ways to leave a knot out."""

from tiedanew.base.checks import are_below, is_below
from tiedanew.errors import InvalidLot, InvalidOperation, InvalidSteps, Refused
from tiedanew.web.webs import beyond_lot, check_knot, check_lot, check_row, check_web, left_out, near, turned

MOST_STEPS = 200


def is_step(value, many):
    """Whether the value is a turn at a knot of so many, or such a knot left out."""
    if not isinstance(value, tuple) or len(value) != 2:
        return False
    return value[0] in ("turn", "leave") and is_below(value[1], many)


def is_steps(web, value):
    """Whether the value is steps of the web."""
    check_web(web)
    if not isinstance(value, tuple) or len(value) > MOST_STEPS:
        return False
    many = web.knots
    for step in value:
        if not is_step(step, many):
            return False
        if step[0] == "leave":
            many -= 1
        if many == 0:
            return False
    return True


def _check_steps(web, steps):
    if not is_steps(web, steps):
        raise InvalidSteps("steps are at most 200 turns and leavings of knots that are there, but the last one")


def web_behind(web, steps):
    """The web behind the steps."""
    _check_steps(web, steps)
    behind = web
    for word, knot in steps:
        behind = turned(behind, knot) if word == "turn" else left_out(behind, knot)
    return behind


def staying(web, steps):
    """The ascending tuple of the knots of the first web that are there behind the steps."""
    _check_steps(web, steps)
    knots = list(range(web.knots))
    for word, knot in steps:
        if word == "leave":
            del knots[knot]
    return tuple(knots)


def steps_ways(web, knot):
    """The steps of the three ways to leave the knot out."""
    close = near(web, knot)
    if web.knots == 1:
        raise Refused(("last",))
    turn, leave = ("turn", knot), ("leave", knot)
    if not close:
        return ((leave,), (leave,), (leave,))
    return ((leave,), (turn, leave), (turn, ("turn", close[0]), turn, leave))


def ways_webs(web, knot):
    """The webs behind the three ways to leave the knot out."""
    return tuple([web_behind(web, steps) for steps in steps_ways(web, knot)])


def way_of(web, row, knot):
    """The way to whose web the one behind the turns of the row, then the knot left, is kin."""
    check_web(web)
    check_row(web, row)
    check_knot(web, knot)
    webs = [web]
    for turn in row:
        webs.append(turned(webs[-1], turn))
    way = 0
    for k in reversed(range(len(row))):
        if row[k] == knot:
            way = (1, 0, 2)[way]
        elif row[k] in near(webs[k], knot):
            way = (0, 2, 1)[way]
    return way


def lesser_web(web, lot, ways):
    """The web of the knots of the lot, behind the others are left out, the greatest one first, by these ways."""
    check_web(web)
    check_lot(web, lot)
    if not lot:
        raise InvalidLot("a web has one knot at least")
    others = beyond_lot(web.knots, lot)
    if not are_below(ways, 3) or len(ways) != len(others):
        raise InvalidOperation("ways are a tuple of 0, 1 or 2 for each knot that is left out")
    behind = web
    for knot, way in zip(reversed(others), ways):
        behind = ways_webs(behind, knot)[way]
    return behind
