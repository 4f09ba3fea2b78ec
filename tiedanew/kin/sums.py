"""Members of bits from one web to another, and whether turns lead there."""

from tiedanew.base.bits import kernel_of, rank_of
from tiedanew.base.checks import is_ascending, ones_of
from tiedanew.kin.letters import are_quadruples, good_bits, letters_by, turns_by
from tiedanew.web.cuts import cut_rank
from tiedanew.web.webs import check_webs_alike, is_row_of_turns, lot_web, masks_of, pieces, turned_by


def _sum_rows(one, other):
    """For each two knots, alike ones too, the row of their sum, with the bits a, b, c, d of each knot in turn."""
    many, ones, others, rows = one.knots, masks_of(one), masks_of(other), []
    for j in range(many):
        for k in range(many):
            row = [0] * (4 * many)
            row[4 * k] = ones[j] >> k & 1
            row[4 * j + 1] = 1 if j == k else 0
            row[4 * j + 3] = others[j] >> k & 1
            for i in ones_of(ones[j] & others[k], many):
                row[4 * i + 2] = 1
            rows.append(tuple(row))
    return tuple(rows)


def _bits_in_row(member):
    """The bits of all quadruples in one row."""
    return tuple([bit for each in member for bit in each])


def _do_sums_hold(rows, member):
    told = _bits_in_row(member)
    return all([sum([a & b for a, b in zip(row, told)]) % 2 == 0 for row in rows])


def _is_of_form(value, many):
    return are_quadruples(value) and len(value) == many


def is_member(one, other, value):
    """Whether the value is a member from one to other."""
    check_webs_alike(one, other)
    return _is_of_form(value, one.knots) and _do_sums_hold(_sum_rows(one, other), value)


def is_good(value):
    """Whether the value is a tuple of 1 to 10 quadruples of bits with a d + b c = 1 at each."""
    return are_quadruples(value) and 0 not in good_bits(value)


def _basis(one, other):
    rows = kernel_of(_sum_rows(one, other), 4 * one.knots)
    return tuple([tuple([row[4 * k:4 * k + 4] for k in range(one.knots)]) for row in rows])


def member_basis(one, other):
    """Members of which each member is the sum of just one pick."""
    check_webs_alike(one, other)
    return _basis(one, other)


def is_member_basis(one, other, value):
    """Whether the value is a tuple of members of which each member is the sum of just one pick."""
    check_webs_alike(one, other)
    rows = _sum_rows(one, other)
    if not isinstance(value, tuple) or len(value) != 4 * one.knots - rank_of(rows):
        return False
    if not all([_is_of_form(member, one.knots) and _do_sums_hold(rows, member) for member in value]):
        return False
    return rank_of(tuple([_bits_in_row(member) for member in value])) == len(value)


def _sum_of_two(one, other):
    return tuple([tuple([a ^ b for a, b in zip(first, second)]) for first, second in zip(one, other)])


def _with_sums(basis):
    """The members of a basis, and all sums of two."""
    return list(basis) + [_sum_of_two(basis[j], basis[k]) for k in range(len(basis)) for j in range(k)]


def _unlike_piece(one, other):
    """A piece of one of both that has not the cut rank 0 in the other one, None if the pieces are the same."""
    for lot in pieces(one):
        if cut_rank(other, lot) > 0:
            return lot
    for lot in pieces(other):
        if cut_rank(one, lot) > 0:
            return lot
    return None


def kin_or_bar(one, other):
    """("turns", row) that leads one to other, ("cut", lot) with unlike cut ranks, or ("none", lot, members)."""
    check_webs_alike(one, other)
    unlike = _unlike_piece(one, other)
    if unlike is not None:
        return ("cut", unlike)
    letters = ["Z"] * one.knots
    for lot in pieces(one):
        basis = _basis(lot_web(one, lot), lot_web(other, lot))
        good = [member for member in _with_sums(basis) if is_good(member)]
        if not good:
            return ("none", lot, basis)
        for knot, letter in zip(lot, letters_by(good[0])):
            letters[knot] = letter
    # To just one kin web a good member with these letters leads, so these turns lead to the other web.
    return ("turns", turns_by(one, letters))


def _is_bar(one, other, lot, members):
    """Whether the lot is a piece of both, and the members a basis from one's to other's without a good one."""
    if not is_ascending(lot, one.knots) or lot not in pieces(one) or lot not in pieces(other):
        return False
    if not is_member_basis(lot_web(one, lot), lot_web(other, lot), members):
        return False
    return all([1 not in good_bits(member) for member in _with_sums(members)])


def is_kin_or_bar(one, other, value):
    """Whether the value is turns from one to other, a lot with unlike cut ranks, or a piece with such a basis."""
    check_webs_alike(one, other)
    if not isinstance(value, tuple) or len(value) not in (2, 3):
        return False
    if len(value) == 3:
        return value[0] == "none" and _is_bar(one, other, value[1], value[2])
    word, told = value
    if word == "turns":
        return is_row_of_turns(one, told) and turned_by(one, told) == other
    return word == "cut" and is_ascending(told, one.knots) and cut_rank(one, told) != cut_rank(other, told)


def are_kin(one, other):
    """Whether turns lead one to other."""
    return kin_or_bar(one, other)[0] == "turns"
