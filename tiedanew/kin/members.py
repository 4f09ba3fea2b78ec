"""Members of turns, and turns out of letters that become Z."""

from tiedanew.errors import InvalidMember, InvalidOperation, InvalidString
from tiedanew.kin.letters import are_letters, are_quadruples, held_lot, letters_by, string_of_lot, turns_by
from tiedanew.kin.sums import is_good
from tiedanew.web.webs import check_row, check_web, is_row_of_turns, masks_of, turned_by, turned_masks


def _turn_member(masks, knot):
    """The member of a turn."""
    close = masks[knot]
    member = [((1, 1, 0, 1) if close >> other & 1 else (1, 0, 0, 1)) for other in range(len(masks))]
    member[knot] = (1, 0, 1, 1)
    return member


def _behind_bits(first, then):
    """The quadruple that leads as the first one, then the other one."""
    a, b, c, d = first
    e, f, g, h = then
    return ((e & a) ^ (f & c), (e & b) ^ (f & d), (g & a) ^ (h & c), (g & b) ^ (h & d))


def _behind(one, other):
    return tuple([_behind_bits(first, then) for first, then in zip(one, other)])


def member_of(web, row):
    """The member from the web to that behind the turns of the row."""
    check_web(web)
    check_row(web, row)
    masks, member = tuple(masks_of(web)), ((1, 0, 0, 1),) * web.knots
    for knot in row:
        member = _behind(member, _turn_member(masks, knot))
        masks = turned_masks(masks, knot)
    return member


def _check_member(value):
    if not are_quadruples(value):
        raise InvalidMember("this is no tuple of 1 to 10 quadruples of bits")


def _check_good(member):
    _check_member(member)
    if not is_good(member):
        raise InvalidOperation("this is no good member")


def behind_member(one, other):
    """The member that leads as the one, then the other one."""
    _check_member(one)
    _check_member(other)
    if len(one) != len(other):
        raise InvalidOperation("members for unlike numbers of knots")
    return _behind(one, other)


def back_member(member):
    """The member that leads a good one back."""
    _check_good(member)
    return tuple([(d, b, c, a) for a, b, c, d in member])


def letters_of(member):
    """For each knot the letter that becomes Z by a good member."""
    _check_good(member)
    return letters_by(member)


def _check_letters(web, letters):
    check_web(web)
    if not are_letters(letters, web.knots):
        raise InvalidString("letters are X, Y or Z, one for each knot")


def are_free(web, letters):
    """Whether no string of the web's full lot but that of I alone has I or just its letter at each knot."""
    _check_letters(web, letters)
    return held_lot(web, letters) is None


def held_or_free(web, letters):
    """("free", row) with turns that lead to the web of the letters, or ("held", string)."""
    _check_letters(web, letters)
    held = held_lot(web, letters)
    if held is None:
        return ("free", turns_by(web, letters))
    return ("held", string_of_lot(web, held))


def _is_held(web, letters, value):
    """Whether the value is a string of the web's full lot with some letter, and I or the told letter at each place."""
    if not isinstance(value, str) or len(value) != web.knots or value == "I" * web.knots:
        return False
    if not all([letter in ("I", told) for letter, told in zip(value, letters)]):
        return False
    # The bits x of a string tell of which ones of the lot it must be the product.
    lot = tuple([knot for knot in range(web.knots) if value[knot] in ("X", "Y")])
    return string_of_lot(web, lot) == value


def is_held_or_free(web, letters, value):
    """Whether the value is turns by a member with these letters, or a string that holds them, with its word."""
    _check_letters(web, letters)
    if not isinstance(value, tuple) or len(value) != 2:
        return False
    word, told = value
    if word == "free":
        return is_row_of_turns(web, told) and letters_by(member_of(web, told)) == letters
    return word == "held" and _is_held(web, letters, told)


def led_by(web, letters):
    """The kin web to which a good member with these letters leads, None if they are not free."""
    if not are_free(web, letters):
        return None
    return turned_by(web, turns_by(web, letters))
