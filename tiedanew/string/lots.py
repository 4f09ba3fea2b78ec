"""Full lots of strings, and the webs whose they are."""

from tiedanew.base.bits import rank_of
from tiedanew.base.checks import is_ascending
from tiedanew.errors import InvalidLot, InvalidOperation, InvalidString, Refused
from tiedanew.kin.letters import LETTERS, are_letters, string_of_lot
from tiedanew.string.rows import (
    bits_of, check_string, form_by, held_strings, is_string, rows_with, string_by, unlike_bits)
from tiedanew.web.webs import Web, beyond_lot, check_web


def _check_strings_alike(one, other):
    check_string(one)
    check_string(other)
    if len(one) != len(other):
        raise InvalidOperation("strings with unlike numbers of places")


def product_of(one, other):
    """The string with the product of both letters at each place."""
    _check_strings_alike(one, other)
    return string_by([low ^ high for low, high in zip(bits_of(one), bits_of(other))])


def _do_commute(one, other):
    return sum(unlike_bits(one, other)) % 2 == 0


def does_commute(one, other):
    """Whether both strings commute."""
    _check_strings_alike(one, other)
    return _do_commute(one, other)


def lot_of(web):
    """The full lot of the web: for each knot X there, and Z at the knots near it."""
    check_web(web)
    return tuple([string_of_lot(web, (knot,)) for knot in range(web.knots)])


def is_full(value):
    """Whether the value is a full lot."""
    if not isinstance(value, tuple) or not all([is_string(string) for string in value]):
        return False
    many = len(value)
    if many == 0 or not all([len(string) == many for string in value]):
        return False
    if not all([_do_commute(one, other) for one in value for other in value]):
        return False
    return rank_of(tuple([bits_of(string) for string in value])) == many


def check_full(value):
    """InvalidString unless the value is a full lot."""
    if not is_full(value):
        raise InvalidString("a full lot has n strings of n places that commute, none a product of others")


def _form(strings):
    return form_by([bits_of(string) for string in strings])


def form_of(full):
    """The reduced basis of the span, as strings."""
    check_full(full)
    return _form(full)


def are_same(full, other):
    """Whether both full lots have one span."""
    check_full(full)
    check_full(other)
    return _form(full) == _form(other)


def within(full, lot):
    """How many strings of the span have I at all places beyond the lot."""
    check_full(full)
    if not is_ascending(lot, len(full)):
        raise InvalidLot("a lot is an ascending tuple of places")
    beyond = beyond_lot(len(full), lot)
    return 1 << len(rows_with(full, lambda string: bits_of([string[place] for place in beyond])))


def _is_change(value):
    return isinstance(value, str) and tuple(sorted(value)) == LETTERS


def are_changes(value, many):
    """Whether the value is a tuple of a change for each of so many places."""
    return isinstance(value, tuple) and len(value) == many and all([_is_change(change) for change in value])


def changed(full, changes):
    """Each string of a full lot with its letters led so by changes of its places."""
    tables = [{"I": "I", "X": x, "Y": y, "Z": z} for x, y, z in changes]
    return tuple(["".join([table[letter] for table, letter in zip(tables, string)]) for string in full])


def exchanged(full, changes):
    """Each string with its letters led so."""
    check_full(full)
    if not are_changes(changes, len(full)):
        raise InvalidOperation("changes are three letters X, Y, Z, each once, for each place")
    return changed(full, changes)


def _check_free(full, free):
    check_full(full)
    if not are_letters(free, len(full)):
        raise InvalidString("free letters are X, Y or Z, one for each place")


def free_or_string(full, free):
    """("free",) if the letters are free, else ("string", string) with just these letters and I, not I alone."""
    _check_free(full, free)
    held = held_strings(full, free)
    if held:
        return ("string", held[0])
    return ("free",)


def _is_in_span(full, string):
    """Whether the string, which has as many places, is a product of the lot's strings."""
    return all([_do_commute(string, other) for other in full])


def is_free_or_string(full, free, value):
    """Whether the value tells that the letters are free, or a string that has just these letters and I."""
    _check_free(full, free)
    if not isinstance(value, tuple) or len(value) not in (1, 2):
        return False
    if len(value) == 1:
        return value[0] == "free" and held_strings(full, free) == ()
    word, string = value
    if word != "string" or not is_string(string) or len(string) != len(full) or string == "I" * len(full):
        return False
    return 1 not in unlike_bits(string, free) and _is_in_span(full, string)


def _other_at(full, free, place):
    """The one string of the span that has I or the free letter at all places but this one, and another letter here."""
    tells = free[:place] + "I" + free[place + 1:]
    return string_by(rows_with(full, lambda string: unlike_bits(string, tells))[0])


def _others(full, free):
    """For each place this string."""
    return [_other_at(full, free, place) for place in range(len(full))]


def _web_of_others(others):
    many = len(others)
    return Web(many, tuple([(v, w) for v in range(many) for w in range(v + 1, many) if others[v][w] != "I"]))


def web_by(full, free):
    """The web that the lot becomes if the free letters go to Z, and what has another letter there alone to X."""
    _check_free(full, free)
    if held_strings(full, free):
        raise Refused(("string",))
    return _web_of_others(_others(full, free))


def free_letters(full):
    """Free letters of a full lot."""
    free = ""
    for place in range(len(full)):
        rest = "I" * (len(full) - place - 1)
        # At most one of three letters is held, as strings with two of them would not commute.
        free = free + [letter for letter in "ZYX" if held_strings(full, free + letter + rest) == ()][0]
    return free


def _change_to(x, z):
    """The change by which these letters go to X and to Z."""
    return "".join(["X" if letter == x else "Z" if letter == z else "Y" for letter in LETTERS])


def web_in(full):
    """A pair (changes, web): the lot, exchanged so, is the same as that of the web."""
    check_full(full)
    free = free_letters(full)
    others = _others(full, free)
    return (tuple([_change_to(others[v][v], free[v]) for v in range(len(full))]), _web_of_others(others))


def is_web_in(full, value):
    """Whether the value is a pair of changes and of the web whose lot comes of them."""
    check_full(full)
    if not isinstance(value, tuple) or len(value) != 2:
        return False
    changes, web = value
    if not are_changes(changes, len(full)) or not isinstance(web, Web):
        return False
    return _form(changed(full, changes)) == _form(lot_of(web))
