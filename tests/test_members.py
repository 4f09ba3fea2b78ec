"""Stage 15: members and turns [15.1] to [15.5]."""

import random
import unittest
from itertools import product

from tests.helper import (
    PATH, ROUND, STAR, STRAYS, WHEEL, Case, all_webs, among, bent, drawn_web, drawn_webs, edge_webs, full_web, joined,
    path_web, round_web, slow_kin, slow_near, slow_rank, slow_turned, webs_up_to)
from tests.test_sums import (
    GOOD, MEMBER, NO_MEMBERS, QUADRUPLES, bits_of, full_lot, slow_is_member, span_of)
from tests.test_webs import NO_WEBS
from tiedanew.errors import InvalidMember, InvalidOperation, InvalidString, InvalidWeb
from tiedanew.kin.members import (
    are_free, back_member, behind_member, held_or_free, is_held_or_free, led_by, letters_of, member_of)
from tiedanew.kin.sums import is_good, is_member, member_basis
from tiedanew.web.webs import Web, beside, turned, turned_by

WAY = PATH
BITS = {"I": (0, 0), "Z": (1, 0), "X": (0, 1), "Y": (1, 1)}
NAMES = {bits: letter for letter, bits in BITS.items()}
SMALL = list(webs_up_to(3)) + list(all_webs(4))[::5] + [WAY, STAR]
GREAT = drawn_webs(30, seed=1501) + edge_webs() + [WHEEL, ROUND, round_web(8), beside(ROUND, STAR)]
NO_LETTERS = STRAYS + (
    "XYZ", "XYZXY", "xyzx", "XYZI", "XYZ ", "XYZ\n", "ABCD", ("X", "Y", "Z", "X"), ["X", "Y", "Z", "X"], ("XYZX",),
    {"X": 1}, 1234, None, "", "XXXXX", "ZZZ")


def all_letters(many):
    return ["".join(letters) for letters in product("XYZ", repeat=many)]


def told_strings(web):
    """The web's full lot as strings of letters."""
    return {"".join(NAMES[bits] for bits in string) for string in full_lot(web)}


def led_letter(quadruple, letter):
    """The letter that becomes of one, by (z, x) to (a z + b x, c z + d x)."""
    a, b, c, d = quadruple
    z, x = BITS[letter]
    return NAMES[((a * z + b * x) % 2, (c * z + d * x) % 2)]


def slow_member_of(web, row):
    """What becomes of X and Z at each knot, turn by turn: X, Z, Y at the knot, Y, X, Z near it for X, Y, Z."""
    images = [{"X": "X", "Z": "Z"} for _ in range(web.knots)]
    for knot in row:
        for other in range(web.knots):
            if other == knot:
                rule = {"X": "X", "Y": "Z", "Z": "Y"}
            elif joined(web, knot, other):
                rule = {"X": "Y", "Y": "X", "Z": "Z"}
            else:
                continue
            images[other] = {letter: rule[image] for letter, image in images[other].items()}
        web = slow_turned(web, knot)
    both = [(BITS[image["Z"]], BITS[image["X"]]) for image in images]
    return tuple((of_z[0], of_x[0], of_z[1], of_x[1]) for of_z, of_x in both)


def held_strings(web, letters):
    """The strings of the full lot with I or just the told letter at each place, but I at all."""
    return {string for string in told_strings(web)
            if set(string) != {"I"} and all(one in ("I", letter) for one, letter in zip(string, letters))}


def slow_can_be_inverted(web, letters):
    """Whether the table on the knots with X or Y, with 1 at equal places for Y, has full rank."""
    knots = [v for v in range(web.knots) if letters[v] != "Z"]
    table = tuple(tuple(int(joined(web, v, w)) if v != w else int(letters[v] == "Y") for w in knots) for v in knots)
    return slow_rank(table) == len(knots)


def drawn_letters(draw, many):
    return "".join(draw.choice("XYZ") for _ in range(many))


def drawn_row(draw, many, size):
    return tuple(draw.randrange(many) for _ in range(size))


class Examples(Case):

    def test_members(self):
        other = turned(WAY, 1)
        self.same([member_of(WAY, (1,)) == MEMBER, letters_of(MEMBER), led_by(WAY, "ZYZZ") == other, member_of(
            WAY, ())[0]], [True, "ZYZZ", True, (1, 0, 0, 1)])

    def test_letters(self):
        self.same([led_by(WAY, "XXZZ").ties, are_free(WAY, "XZXZ"), led_by(WAY, "XZZZ"), held_or_free(
            WAY, "XZZX")[0], held_or_free(WAY, "YYZZ")[0]], [((0, 1), (0, 2), (2, 3)), False, None, "held", "held"])

    def test_papers(self):
        self.same(behind_member(MEMBER, back_member(MEMBER)), member_of(WAY, ()))
        self.judged(True, is_held_or_free, WAY, "XZXZ", ("held", "XIXZ"))
        self.judged(True, is_held_or_free, WAY, "ZYZZ", ("free", (1,)))


class OfTurns(Case):

    def test_letter_by_letter(self):
        draw = random.Random(1502)
        for web in SMALL + GREAT:
            for size in (0, 1, 2, 3, 9):
                row = drawn_row(draw, web.knots, size)
                member = self.told(member_of, web, row)
                self.same(member, slow_member_of(web, row))
                self.assertTrue(slow_is_member(web, turned_by(web, row), member))
                self.judged(True, is_member, web, turned_by(web, row), member)
                self.judged(True, is_good, member)

    def test_one_turn(self):
        for web in SMALL + GREAT:
            for knot in range(web.knots):
                self.same(member_of(web, (knot,)), tuple(
                    (1, 0, 1, 1) if v == knot else (1, 1, 0, 1) if v in slow_near(web, knot) else (1, 0, 0, 1)
                    for v in range(web.knots)))

    def test_strings_are_led(self):
        draw = random.Random(1503)
        for web in [web for web in SMALL + GREAT if web.knots < 6]:
            row = drawn_row(draw, web.knots, 6)
            member = member_of(web, row)
            found = {"".join(map(led_letter, member, string)) for string in told_strings(web)}
            self.assertEqual(found, told_strings(turned_by(web, row)))

    def test_200_turns(self):
        draw = random.Random(1504)
        for web in (full_web(10), Web(1, ()), round_web(8)):
            row = drawn_row(draw, web.knots, 200)
            self.same(member_of(web, row), slow_member_of(web, row))
            self.refused(InvalidOperation, member_of, web, row + (0,))


class OneBehindTheOther(Case):

    def test_all_quadruples(self):
        for first, then in product(QUADRUPLES, repeat=2):
            (both,) = self.told(behind_member, (first,), (then,))
            for letter in "IXYZ":
                self.assertEqual(led_letter(both, letter), led_letter(then, led_letter(first, letter)))
            self.assertEqual(bits_of((both,))[0], bits_of((first,))[0] * bits_of((then,))[0])
            self.assertTrue(all(type(bit) is int for bit in both))

    def test_members_in_a_row(self):
        draw = random.Random(1505)
        for web in SMALL + GREAT[::2]:
            turns = drawn_row(draw, web.knots, 5)
            second, third = turned_by(web, turns), drawn_web(draw, web.knots)
            for one in (member_of(web, turns),) + member_basis(web, second)[:4]:
                for other in member_basis(second, third)[:5]:
                    both = self.told(behind_member, one, other)
                    self.same(both, tuple(behind_member((a,), (b,))[0] for a, b in zip(one, other)))
                    self.judged(True, is_member, web, third, both)
            row, further = drawn_row(draw, web.knots, 4), drawn_row(draw, web.knots, 3)
            self.same(behind_member(member_of(web, row), member_of(turned_by(web, row), further)), member_of(
                web, row + further))

    def test_back(self):
        draw = random.Random(1506)
        for value in GOOD:
            (back,) = self.told(back_member, (value,))
            for letter in "IXYZ":
                self.assertEqual(led_letter(back, led_letter(value, letter)), letter)
        for web in SMALL + GREAT:
            row = drawn_row(draw, web.knots, 7)
            member = member_of(web, row)
            back = self.told(back_member, member)
            self.same(back, tuple((d, b, c, a) for a, b, c, d in member))
            self.same(back, member_of(turned_by(web, row), row[::-1]))
            self.judged(True, is_member, turned_by(web, row), web, back)
            self.same(behind_member(member, back), member_of(web, ()))
            self.same(behind_member(back, member), member_of(web, ()))

    def test_letters(self):
        for value in GOOD:
            letter = next(letter for letter in "XYZ" if led_letter(value, letter) == "Z")
            self.same(self.told(letters_of, (value,)), letter)
        for values in list(product(GOOD, repeat=3))[::5]:
            self.same(letters_of(values), "".join(letters_of((value,)) for value in values))

    def test_sizes(self):
        for many in range(1, 11):
            self.assertEqual(len(behind_member((GOOD[0],) * many, (GOOD[1],) * many)), many)
            self.assertEqual(len(letters_of((GOOD[2],) * many)), many)
            self.assertEqual(len(back_member((GOOD[3],) * many)), many)


class Free(Case):

    def test_by_going_through_the_full_lot(self):
        """And EXACTLY IF the table can be inverted [15.3]."""
        for web in SMALL + [ROUND, path_web(5)]:
            for letters in all_letters(web.knots):
                held = held_strings(web, letters)
                self.judged(not held, are_free, web, letters)
                self.judged(slow_can_be_inverted(web, letters), are_free, web, letters)

    def test_great_webs(self):
        draw, found = random.Random(1507), set()
        for web in [web for web in GREAT if web.knots < 9] + [round_web(10), full_web(10)]:
            for letters in [drawn_letters(draw, web.knots) for _ in range(5)]:
                free = not held_strings(web, letters)
                found.add(free)
                self.judged(free, are_free, web, letters)
            self.judged(True, are_free, web, "Z" * web.knots)
        self.assertEqual(found, {True, False})

    def test_just_one_kin_web_and_one_member(self):
        for web in list(webs_up_to(3)) + [WAY, STAR, Web(4, ((0, 1), (2, 3))), full_web(4)]:
            told = {}
            for ties in slow_kin(web):
                other = Web(web.knots, ties)
                for member in span_of(member_basis(web, other), web.knots):
                    if 0 not in bits_of(member):
                        told.setdefault(letters_of(member), []).append((other, member))
            for letters in all_letters(web.knots):
                self.judged(letters in told, are_free, web, letters)
                if letters in told:
                    ((other, member),) = told[letters]
                    self.assertEqual(self.told(led_by, web, letters), other)
                    # Each good member is that of a row of turns [15.4].
                    self.same(member_of(web, held_or_free(web, letters)[1]), member)
                else:
                    self.same(self.told(led_by, web, letters), None)

    def test_letters_of_good_members_are_free(self):
        draw = random.Random(1508)
        for web in SMALL + GREAT:
            row = drawn_row(draw, web.knots, 12)
            letters = letters_of(member_of(web, row))
            self.judged(True, are_free, web, letters)
            self.assertEqual(led_by(web, letters), turned_by(web, row))
            self.judged(True, is_held_or_free, web, letters, ("free", row))


class HeldOrFree(Case):

    def asked(self, web, letters):
        """Asks for turns or a string, and looks at it; its word."""
        word, told = paper = self.told(held_or_free, web, letters)
        self.judged(True, is_held_or_free, web, letters, paper)
        if word == "free":
            self.assertLessEqual(2 * len(told), 3 * web.knots)
            self.same(letters_of(slow_member_of(web, told)), letters)
            self.assertEqual(led_by(web, letters), turned_by(web, told))
        else:
            self.assertEqual(word, "held")
            self.assertEqual(len(told), web.knots)
            self.assertIn(told, held_strings(web, letters))
            self.same(led_by(web, letters), None)
        self.judged(word == "free", are_free, web, letters)
        return word

    def test_all_letters(self):
        words = []
        for web in SMALL + [ROUND, path_web(5), beside(Web(2, ((0, 1),)), path_web(3))]:
            words += [self.asked(web, letters) for letters in all_letters(web.knots)]
        self.assertGreater(min(words.count("held"), words.count("free")), 300)

    def test_great_webs(self):
        draw, words = random.Random(1509), []
        for web in [web for web in GREAT if web.knots < 9] + [round_web(10), full_web(10), Web(10, ()), path_web(10)]:
            words += [self.asked(web, drawn_letters(draw, web.knots)) for _ in range(4)]
            for _ in range(3):
                letters = letters_of(member_of(web, drawn_row(draw, web.knots, 20)))
                self.assertEqual(self.asked(web, letters), "free")
        self.assertGreater(min(words.count("held"), words.count("free")), 20)

    def test_edges(self):
        self.same([held_or_free(Web(1, ()), letter) for letter in "XYZ"], [
            ("held", "X"), ("free", (0,)), ("free", ())])
        self.same(held_or_free(Web(10, ()), "X" + "Z" * 9), ("held", "X" + "I" * 9))
        self.same(held_or_free(full_web(10), "Z" * 10), ("free", ()))
        pairs = Web(10, ((0, 1), (2, 3), (4, 5), (6, 7), (8, 9)))
        word, row = held_or_free(pairs, "X" * 10)
        self.assertEqual((word, len(row)), ("free", 15))

    def test_all_strings(self):
        for web in (WAY, STAR, path_web(3), Web(3, ((0, 2),)), Web(2, ()), Web(1, ())):
            strings = ["".join(letters) for letters in product("IXYZ", repeat=web.knots)]
            for letters in all_letters(web.knots)[::2]:
                right = held_strings(web, letters)
                for string in strings:
                    self.judged(string in right, is_held_or_free, web, letters, ("held", string))
                self.judged(not right, are_free, web, letters)

    def test_all_short_rows(self):
        for web in (WAY, STAR, path_web(3), Web(2, ())):
            for letters in all_letters(web.knots)[::4] + ["ZY" + "Z" * (web.knots - 2), "XX" + "Z" * (web.knots - 2)]:
                for size in range(4):
                    for row in product(range(web.knots), repeat=size):
                        right = letters_of(slow_member_of(web, row)) == letters
                        self.judged(right, is_held_or_free, web, letters, ("free", row))

    def test_200_turns_and_201(self):
        for web in (WAY, Web(1, ()), full_web(10)):
            letters = "Z" * web.knots
            for many in (0, 1, 2, 198, 199, 200, 201, 202):
                self.judged(many % 2 == 0 and many <= 200, is_held_or_free, web, letters, ("free", (0,) * many))

    def test_wrong_papers(self):
        for web, letters, right in ((WAY, "XZXZ", ("held", "XIXZ")), (WAY, "ZYZZ", ("free", (1,)))):
            self.judged(True, is_held_or_free, web, letters, right)
            wrong = STRAYS + tuple(bent(right)) + (
                ("held",), ("free",), ("held", ""), ("held", "IIII"), ("held", "XIX"), ("held", "XIXZI"),
                ("held", "xixz"),
                ("held", ("X", "I", "X", "Z")), ("held", ["X", "I", "X", "Z"]), ("held", None), ("held", "XIXI"),
                ("free", ()), ("free", [1]), ("free", "1"), ("free", (4,)), ("free", (-3,)), ("free", (True,)),
                ("free", (1, 0)), right[::-1], right + (0,), list(right), (right,), right[1], ("free", "XIXZ"),
                ("held", (1,)), ("kept", right[1]), ("held", "ZIZZ"), ("free", None), ("held", Web(4, ())))
            for value in wrong:
                if not among(value, [right]):
                    self.judged(False, is_held_or_free, web, letters, value)


class Refusals(Case):

    def test_web(self):
        for value in NO_WEBS:
            self.refused(InvalidWeb, member_of, value, ())
            self.refused(InvalidWeb, member_of, value, None)
            for function in (are_free, held_or_free, led_by):
                self.refused(InvalidWeb, function, value, "Z")
                self.refused(InvalidWeb, function, value, None)
            self.refused(InvalidWeb, is_held_or_free, value, "Z", ("free", ()))
            self.refused(InvalidWeb, is_held_or_free, value, None, None)

    def test_row(self):
        wrong = tuple(value for value in STRAYS if not among(value, [(), (0, 0), (1, 0)])) + (
            [0], (4,), (-1,), (0, True), (None,), "01", ((0,),), (0,) * 201, {0: 1}, (10 ** 60,), (0, "1"))
        for value in wrong:
            self.refused(InvalidOperation, member_of, WAY, value)

    def test_letters(self):
        for value in NO_LETTERS:
            for function in (are_free, held_or_free, led_by):
                self.refused(InvalidString, function, WAY, value)
            for paper in (("free", ()), None):
                self.refused(InvalidString, is_held_or_free, WAY, value, paper)
        for letters in ("", "ZZ", "I", "z"):
            self.refused(InvalidString, are_free, Web(1, ()), letters)

    def test_members(self):
        for value in NO_MEMBERS:
            if value in ((), []) or not among(value, [((1, 0, 0, 1),)]):
                for function in (back_member, letters_of):
                    self.refused(InvalidMember, function, value)
                self.refused(InvalidMember, behind_member, value, MEMBER)
                self.refused(InvalidMember, behind_member, MEMBER, value)
                self.refused(InvalidMember, behind_member, value, value)
        for value in bent(MEMBER, 10 ** 99):
            for function in (back_member, letters_of):
                self.refused(InvalidMember, function, value)
            self.refused(InvalidMember, behind_member, value, MEMBER[:2])
            self.refused(InvalidMember, behind_member, MEMBER[:2], value)

    def test_unlike_numbers_and_no_good_ones(self):
        for one, other in ((MEMBER, MEMBER[:3]), (MEMBER[:1], MEMBER), ((GOOD[0],) * 10, (GOOD[0],) * 9)):
            self.refused(InvalidOperation, behind_member, one, other)
        for value in QUADRUPLES:
            if value not in GOOD:
                for member in ((value,), MEMBER[:3] + (value,), (value,) + MEMBER):
                    self.refused(InvalidOperation, back_member, member)
                    self.refused(InvalidOperation, letters_of, member)
                self.same(behind_member((value,), ((1, 0, 0, 1),)), (value,))


class NotTrue(Case):
    """[15.5]"""

    def test_x_near_another_x(self):
        self.assertTrue(all(any(joined(path_web(3), v, w) for w in range(3)) for v in range(3)))
        self.judged(False, are_free, path_web(3), "XXX")

    def test_both_sequences(self):
        self.assertNotEqual(member_of(WAY, (1, 2)), member_of(WAY, (2, 1)))

    def test_rows_to_one_web(self):
        web = Web(2, ((0, 1),))
        self.assertEqual(turned(web, 0), turned(web, 1))
        self.assertNotEqual(member_of(web, (0,)), member_of(web, (1,)))


if __name__ == "__main__":
    unittest.main()
