"""Rows of bits: sums, spans, kernels, and either bits or a bar."""

from tiedanew.base.checks import are_below, are_bits, is_ascending, is_whole, ones_of
from tiedanew.errors import InvalidBits, InvalidNumber, InvalidOperation

MOST_BITS = 144
MOST_ROWS = 1000


def _is_row(value):
    return are_below(value, 2) and 1 <= len(value) <= MOST_BITS


def _check_row(value):
    if not _is_row(value):
        raise InvalidBits("a row is a tuple of 1 to 144 bits")


def _check_rows(value):
    if not are_rows(value):
        raise InvalidBits("rows are a tuple of at most 1,000 rows of one length")


def _check_length(rows, many):
    if rows and len(rows[0]) != many:
        raise InvalidOperation("rows of unlike lengths")


def _check_goal(rows, goal):
    _check_rows(rows)
    if not are_bits(goal, len(rows)):
        raise InvalidBits("a goal is a tuple of a bit for each of the rows")
    if not rows:
        raise InvalidOperation("without rows it is not told how long they are")


def number_of(row):
    """The row as one number; its first place is the highest bit, so heads are highest bits."""
    number = 0
    for bit in row:
        number = number * 2 + bit
    return number


def row_of(number, many):
    """The row of so many bits back from its number."""
    return tuple([number >> (many - 1 - place) & 1 for place in range(many)])


def heads_apart(numbers, low):
    """Number added to number till highest bits are unlike: a dict by their bit lengths, and what is left.

    The lowest `low` bits go along, but are no heads; what is left has no others.
    """
    heads, left = {}, []
    for number in numbers:
        rest = number
        while rest.bit_length() in heads:
            rest = rest ^ heads[rest.bit_length()]
        if rest.bit_length() > low:
            heads[rest.bit_length()] = rest
        else:
            left.append(rest)
    return heads, left


def rank_of_numbers(numbers):
    """The rank modulo 2 of rows that are told as numbers."""
    return len(heads_apart(numbers, 0)[0])


def _reduced(heads):
    """The numbers of the heads, ascending, none with a 1 at the head of another one."""
    basis = []
    for length in sorted(heads):
        number = heads[length]
        for lower in basis:
            if number >> (lower.bit_length() - 1) & 1:
                number = number ^ lower
        basis.append(number)
    return basis


def _basis_rows(numbers, many):
    """The reduced basis of the span of rows that are told as numbers."""
    basis = _reduced(heads_apart(numbers, 0)[0])
    return tuple([row_of(number, many) for number in reversed(basis)])


def _kernel_numbers(basis, many):
    """For each place that is no head the number with 1 there, and at heads only else."""
    heads = [number.bit_length() - 1 for number in basis]
    kernel = []
    for place in range(many):
        if place not in heads:
            held = [1 << head for head, number in zip(heads, basis) if number >> place & 1]
            kernel.append(sum(held) + (1 << place))
    return kernel


def solution_of(numbers, goal, many):
    """`solved` for rows of so many bits that are told as numbers; there may be none."""
    count = len(numbers)
    # Behind its bits each row keeps its bit of the goal, and behind it which rows it was added up of.
    tagged = [((number * 2 + goal[k]) << count) + (1 << k) for k, number in enumerate(numbers)]
    heads, left = heads_apart(tagged, count + 1)
    for rest in left:
        if rest >> count:
            return ("bar", ones_of(rest, count))
    unknown = 0
    for number in _reduced(heads):
        if number >> count & 1:
            unknown += 1 << (number.bit_length() - count - 2)
    return ("bits", row_of(unknown, many))


def _product(one, other):
    return sum([a & b for a, b in zip(one, other)]) % 2


def _sum_of_pick(rows, pick):
    total = 0
    for k in pick:
        total = total ^ number_of(rows[k])
    return row_of(total, len(rows[0]))


def are_rows(value):
    """Whether the value is a tuple of 0 to 1,000 rows of one length."""
    if not isinstance(value, tuple) or len(value) > MOST_ROWS:
        return False
    if not all([_is_row(row) for row in value]):
        return False
    return all([len(row) == len(value[0]) for row in value])


def row_sum(one, other):
    """At each place the sum of both bits, modulo 2."""
    _check_row(one)
    _check_row(other)
    _check_length((one,), len(other))
    return tuple([a ^ b for a, b in zip(one, other)])


def row_product(one, other):
    """The bit that tells whether both have 1 at an odd number of places."""
    _check_row(one)
    _check_row(other)
    _check_length((one,), len(other))
    return _product(one, other)


def summed(rows, pick):
    """The sum of the rows of the pick."""
    _check_rows(rows)
    if not is_ascending(pick, len(rows)):
        raise InvalidOperation("a pick is an ascending tuple of indices of rows")
    if not rows:
        raise InvalidOperation("without rows it is not told how long they are")
    return _sum_of_pick(rows, pick)


def rank_of(rows):
    """How many rows the reduced basis has."""
    _check_rows(rows)
    return rank_of_numbers([number_of(row) for row in rows])


def basis_of(rows):
    """The reduced basis of the span."""
    _check_rows(rows)
    if not rows:
        return ()
    return _basis_rows([number_of(row) for row in rows], len(rows[0]))


def kernel_of(rows, many):
    """The reduced basis of all rows of so many bits that have the product 0 with each of the rows."""
    _check_rows(rows)
    if not is_whole(many) or not 1 <= many <= MOST_BITS:
        raise InvalidNumber(many)
    _check_length(rows, many)
    basis = _reduced(heads_apart([number_of(row) for row in rows], 0)[0])
    return _basis_rows(_kernel_numbers(basis, many), many)


def solved(rows, goal):
    """("bits", row) with a row that has all products of the goal, or ("bar", pick)."""
    _check_goal(rows, goal)
    return solution_of([number_of(row) for row in rows], goal, len(rows[0]))


def is_solved(rows, goal, value):
    """Whether the value is a row with all products of the goal, or a bar, with its word."""
    _check_goal(rows, goal)
    if not isinstance(value, tuple) or len(value) != 2:
        return False
    word, told = value
    if word == "bits":
        return are_bits(told, len(rows[0])) and [_product(row, told) for row in rows] == list(goal)
    if word != "bar" or not is_ascending(told, len(rows)):
        return False
    return 1 not in _sum_of_pick(rows, told) and sum([goal[k] for k in told]) % 2 == 1


def _check_row_beside(rows, row):
    _check_rows(rows)
    _check_row(row)
    _check_length(rows, len(row))


def pick_or_look(rows, row):
    """("pick", pick) with a pick that sums to the row, or ("look", look)."""
    _check_row_beside(rows, row)
    numbers = [number_of(each) for each in rows + (row,)]
    # A look has the product 0 with all rows and 1 with this one; a bar to it has this row at its end.
    word, told = solution_of(numbers, (0,) * len(rows) + (1,), len(row))
    if word == "bits":
        return ("look", told)
    return ("pick", told[:-1])


def is_pick_or_look(rows, row, value):
    """Whether the value is a pick that sums to the row, or a look, with its word."""
    _check_row_beside(rows, row)
    if not isinstance(value, tuple) or len(value) != 2:
        return False
    word, told = value
    if word == "look":
        return are_bits(told, len(row)) and [_product(each, told) for each in rows + (row,)] == [0] * len(rows) + [1]
    if word != "pick" or not is_ascending(told, len(rows)):
        return False
    total = number_of(row)
    for k in told:
        total = total ^ number_of(rows[k])
    return total == 0
