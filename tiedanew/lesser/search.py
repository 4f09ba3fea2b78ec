"""Searches for steps: down to a least web of some sort, and by turns to one that is looked for."""

from tiedanew.lesser.steps import steps_ways, web_behind
from tiedanew.web.webs import masks_of, turned_masks


def ways_from(web):
    """The steps of all ways to leave a knot out, of a web of two knots or more."""
    return [steps for knot in range(web.knots) for steps in steps_ways(web, knot)]


def _steps_once(web, is_sort):
    """Steps of a way to a web of the sort, None if no way leads to one."""
    for steps in ways_from(web):
        if is_sort(web_behind(web, steps)):
            return steps
    return None


def steps_down(web, is_sort):
    """Steps of ways to a web of the sort from which no way leads to one of it, out of one of the sort."""
    behind, row = web, ()
    steps = _steps_once(web, is_sort)
    while steps is not None:
        row = row + steps
        behind = web_behind(behind, steps)
        steps = _steps_once(behind, is_sort)
    return row


def turns_until(web, is_goal):
    """The steps of least turns to a web whose masks are a goal, None if turns lead to none."""
    first = tuple(masks_of(web))
    seen, layer = {first: True}, [(first, ())]
    while layer:
        behind = []
        for masks, steps in layer:
            if is_goal(masks):
                return steps
            for knot in range(len(masks)):
                more = turned_masks(masks, knot)
                if more not in seen:
                    seen[more] = True
                    behind.append((more, steps + (("turn", knot),)))
        layer = behind
    return None
