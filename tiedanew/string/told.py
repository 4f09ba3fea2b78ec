"""Letters told at places of a full lot, and the lesser webs that they leave."""

from tiedanew.base.checks import is_below
from tiedanew.errors import InvalidNumber, InvalidOperation, InvalidString, Refused, TooMany
from tiedanew.kin.letters import LETTERS
from tiedanew.kin.members import member_of
from tiedanew.kin.sums import are_kin
from tiedanew.string.lots import are_changes, are_same, changed, check_full, lot_of, web_in
from tiedanew.string.rows import form_by, held_strings, is_string, rows_with, string_by, unlike_bits
from tiedanew.web.webs import beyond_lot, check_knot, check_lot, check_web, left_out, near, turned_by

MOST_TOLD = 4


def _check_letter(letter):
    if letter not in LETTERS:
        raise InvalidString("a letter is X, Y or Z")


def _check_tells(full, tells):
    check_full(full)
    if not is_string(tells) or len(tells) != len(full):
        raise InvalidString("what is told is a string with as many places")


def _left_by(full, tells):
    """The form of what stays, where some place has nothing told."""
    rows = rows_with(full, lambda string: unlike_bits(string, tells))
    kept = [place for place, letter in enumerate(tells) if letter == "I"]
    return form_by([tuple([row[2 * place + k] for place in kept for k in (0, 1)]) for row in rows])


def _told_alone(many, place, letter):
    """The letter at this one of so many places."""
    return "I" * place + letter + "I" * (many - place - 1)


def told_at(full, place, letter):
    """The form of what stays when the letter is told at the place."""
    check_full(full)
    if not is_below(place, len(full)):
        raise InvalidNumber(place)
    _check_letter(letter)
    if len(full) == 1:
        raise Refused(("last",))
    return _left_by(full, _told_alone(len(full), place, letter))


def told_by(full, tells):
    """The form of what stays when all letters are told."""
    _check_tells(full, tells)
    if "I" not in tells:
        raise Refused(("last",))
    return _left_by(full, tells)


def sure_of(full, tells):
    """The reduced basis of the strings of the span with just the told letters, and I."""
    _check_tells(full, tells)
    return held_strings(full, tells)


def outcome_count(full, tells):
    """How many rows of outcomes the told letters can have."""
    _check_tells(full, tells)
    return 1 << (len(full) - tells.count("I") - len(held_strings(full, tells)))


def _turns_for(web, knot, letter):
    """Turns that lead the letter at the knot to Z."""
    close = near(web, knot)
    if letter == "Z" or not close:
        return ()
    return (knot,) if letter == "Y" else (knot, close[0], knot)


def _change_of(quadruple):
    """The letters to which X, Y and Z are led."""
    a, b, c, d = quadruple
    return string_by((b, d, a ^ b, c ^ d, a, c))


def _check_told(web, knot, letter):
    check_web(web)
    check_knot(web, knot)
    _check_letter(letter)
    if web.knots == 1:
        raise Refused(("last",))


def web_told(web, knot, letter):
    """A pair (changes, left): the web that the letter told at the knot leaves, behind the changes."""
    _check_told(web, knot, letter)
    row = _turns_for(web, knot, letter)
    member = member_of(web, row)
    changes = [_change_of(member[other]) for other in beyond_lot(web.knots, (knot,))]
    return (tuple(changes), left_out(turned_by(web, row), knot))


def is_web_told(web, knot, letter, value):
    """Whether the value is the web that the letter leaves, and changes that lead to its full lot."""
    _check_told(web, knot, letter)
    if not isinstance(value, tuple) or len(value) != 2:
        return False
    changes, left = value
    if not are_changes(changes, web.knots - 1) or left != web_told(web, knot, letter)[1]:
        return False
    return are_same(changed(told_at(lot_of(web), knot, letter), changes), lot_of(left))


def _check_tells_for(web, lesser, lot):
    check_web(web)
    check_web(lesser)
    check_lot(web, lot)
    if lesser.knots != web.knots - len(lot):
        raise InvalidOperation("the lesser web has as many knots as are beyond the lot")
    if len(lot) > MOST_TOLD:
        raise TooMany(MOST_TOLD)


def _does_leave(web, lesser, tells):
    """Whether what stays of the web's full lot is, behind some changes, the same as that of the lesser web."""
    return are_kin(web_in(_left_by(lot_of(web), tells))[1], lesser)


def _tells_for(web, lesser, lot):
    told = [""]
    for knot in range(web.knots):
        told = [tells + letter for tells in told for letter in (LETTERS if knot in lot else ("I",))]
    for tells in told:
        if _does_leave(web, lesser, tells):
            return tells
    return None


def tells_for(web, lesser, lot):
    """A string with letters at the lot alone, which leave the lesser web behind changes; None without one."""
    _check_tells_for(web, lesser, lot)
    return _tells_for(web, lesser, lot)


def is_tells_for(web, lesser, lot, value):
    """Whether the value is such a string, or None where there is none."""
    _check_tells_for(web, lesser, lot)
    if value is None:
        return _tells_for(web, lesser, lot) is None
    if not is_string(value) or len(value) != web.knots:
        return False
    if not all([(letter != "I") == (knot in lot) for knot, letter in enumerate(value)]):
        return False
    return _does_leave(web, lesser, value)
