"""Strings of letters as rows of bits, two for each place."""

from tiedanew.base.bits import basis_of, heads_apart, number_of, row_of
from tiedanew.errors import InvalidString
from tiedanew.kin.letters import BY_BITS
from tiedanew.web.webs import MOST_KNOTS

BITS = {"I": (0, 0), "Z": (1, 0), "X": (0, 1), "Y": (1, 1)}


def is_string(value):
    """Whether the value is a string of 1 to 10 letters I, X, Y, Z."""
    if not isinstance(value, str) or not 1 <= len(value) <= MOST_KNOTS:
        return False
    return all([letter in BITS for letter in value])


def check_string(value):
    """InvalidString unless the value is a string."""
    if not is_string(value):
        raise InvalidString("a string has 1 to 10 letters I, X, Y, Z")


def bits_of(string):
    """The bits z and x of each place in turn."""
    return tuple([bit for letter in string for bit in BITS[letter]])


def string_by(row):
    """The string back from its bits."""
    return "".join([BY_BITS[row[at] + 2 * row[at + 1]] for at in range(0, len(row), 2)])


def unlike_bits(one, other):
    """For each place the bit that tells whether the letters are unlike, and neither is I."""
    return tuple([1 if low != high and "I" not in (low, high) else 0 for low, high in zip(one, other)])


def rows_with(strings, wrong):
    """A basis, as rows, of those products of the strings for which all told bits are 0.

    The bits of a product must be the sums of those of its strings.
    """
    many = 2 * len(strings[0])
    numbers = [(number_of(wrong(string)) << many) + number_of(bits_of(string)) for string in strings]
    return [row_of(number, many) for number in heads_apart(numbers, many)[1]]


def form_by(rows):
    """The strings of the reduced basis of the rows."""
    return tuple([string_by(row) for row in basis_of(tuple(rows))])


def held_strings(full, tells):
    """The reduced basis of all strings of the span with just the told letters, and I, and I where I is told."""
    def wrong(string):
        beyond = [string[place] for place, letter in enumerate(tells) if letter == "I"]
        return unlike_bits(string, tells) + bits_of(beyond)
    return form_by(rows_with(full, wrong))
