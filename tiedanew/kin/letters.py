"""Quadruples of bits, the letters that they lead to Z, and turns out of letters."""

from tiedanew.base.bits import kernel_of
from tiedanew.base.checks import are_bits, number_with, ones_of
from tiedanew.web.webs import MOST_KNOTS, masks_of, turned_masks

LETTERS = ("X", "Y", "Z")
# Letters are bits (z, x); the sum of both bits, x counted twice, is the place of the letter here.
BY_BITS = ("I", "Z", "X", "Y")


def are_quadruples(value):
    """Whether the value is a tuple of 1 to 10 quadruples of bits."""
    if not isinstance(value, tuple) or not 1 <= len(value) <= MOST_KNOTS:
        return False
    return all([are_bits(each, 4) for each in value])


def good_bits(member):
    """The bits a d + b c, knot by knot."""
    return tuple([(a & d) ^ (b & c) for a, b, c, d in member])


def letters_by(member):
    """For each knot the letter that becomes Z by a good member."""
    return "".join([("Z" if each[2] == 0 else "Y" if each[3] == 1 else "X") for each in member])


def are_letters(value, many):
    """Whether the value is a string of X, Y, Z, one for each of so many knots."""
    return isinstance(value, str) and len(value) == many and all([letter in LETTERS for letter in value])


def _table(web, letters):
    """The table on the knots with X or Y, as masks of all knots, with 1 at equal places for Y; and these knots."""
    knots = [knot for knot in range(web.knots) if letters[knot] != "Z"]
    masks = masks_of(web)
    looped = [masks[knot] + (1 << knot if letters[knot] == "Y" else 0) for knot in knots]
    return ([tuple([mask >> other & 1 for other in knots]) for mask in looped], knots)


def held_lot(web, letters):
    """Knots whose strings have as their product one with just the letters and I; None if there are none."""
    rows, knots = _table(web, letters)
    if not rows:
        return None
    kernel = kernel_of(tuple(rows), len(knots))
    if not kernel:
        return None
    return tuple([knot for knot, bit in zip(knots, kernel[0]) if bit])


def string_of_lot(web, lot):
    """The product of the strings of the web's full lot for the knots of the lot."""
    masks, z = masks_of(web), 0
    for knot in lot:
        z = z ^ masks[knot]
    x = number_with(lot)
    return "".join([BY_BITS[(z >> knot & 1) + 2 * (x >> knot & 1)] for knot in range(web.knots)])


def _turn_letters(masks, letters, knot):
    """What becomes of the letters by a turn: Y and Z are exchanged at the knot, X and Y near it."""
    close = ones_of(masks[knot], len(masks))
    behind = []
    for other, letter in enumerate(letters):
        if other == knot and letter != "X":
            letter = "Z" if letter == "Y" else "Y"
        elif other in close and letter != "Z":
            letter = "Y" if letter == "X" else "X"
        behind.append(letter)
    return behind


def _turns_once(masks, letters):
    """Turns that leave one more letter Z, or two: at a knot with Y, or along a tie of two with X; () if none do."""
    for knot, letter in enumerate(letters):
        if letter == "Y":
            return (knot,)
    for knot, letter in enumerate(letters):
        for other in ones_of(masks[knot], len(masks)):
            if letter == "X" and letters[other] == "X":
                return (knot, other, knot)
    return ()


def turns_by(web, letters):
    """Turns that lead free letters to Z at each knot."""
    masks, told, row = tuple(masks_of(web)), list(letters), ()
    turns = _turns_once(masks, told)
    while turns:
        for knot in turns:
            told = _turn_letters(masks, told, knot)
            masks = turned_masks(masks, knot)
        row = row + turns
        turns = _turns_once(masks, told)
    return row
