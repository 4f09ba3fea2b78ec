"""Stage 17: strings of letters [17.1] to [17.6], and what [0.12] and [0.20] tell of full lots."""

import random
import unittest
from itertools import permutations, product

from tests.helper import (
    DEEP, PATH, ROUND, STAR, STRAYS, WHEEL, Case, all_webs, among, bent, drawn_web, drawn_webs, edge_webs, full_web,
    joined, lots, path_web, slow_cut_rank, slow_kin, slow_near, slow_turned, webs_up_to)
from tests.test_cuts import NO_LOTS
from tests.test_webs import NO_WEBS
from tiedanew.errors import InvalidLot, InvalidOperation, InvalidString, InvalidWeb, Refused
from tiedanew.string.lots import (
    are_same, does_commute, exchanged, form_of, free_or_string, is_free_or_string, is_full, is_web_in, lot_of,
    product_of, web_by, web_in, within)
from tiedanew.web.webs import Web, beside, turned

LINE = ("XZI", "ZXZ", "IZX")
CHANGES = ["".join(change) for change in permutations("XYZ")]
BITS = {"I": (0, 0), "Z": (1, 0), "X": (0, 1), "Y": (1, 1)}
NO_STRINGS = STRAYS + (
    "", "x", "A", "XA", "X Z", "XZ\n", "IXYZIXYZIXY", "I" * 11, "IXYZ1", ("X",), ["X"], {"X": 1}, ("X", "Z"), b"X",
    [["X"]], Web(1, ()), ("XX", "ZZ"))
NO_FULL = tuple(value for value in STRAYS) + (
    "X", "XX", ["X"], ["XX", "ZZ"], ("I",), ("XX",), ("X", "Z"), ("XX", "XX"), ("XX", "II"), ("XX", "ZI"), ("XX", "XY"),
    ("XX", "ZZ", "YY"), ("XX", "zz"), ("XX", None), ("XX", ("Z", "Z")), ("XX", ["Z", "Z"]), ("XX", "ZZ "), ("XX",
    "ZZZ"),
    ("XXI", "ZZI", "YYI"), ("XXI", "ZZI"), (("X",),), ("X", ""), ("",), {"X": 1}, (1,), (True,), DEEP, ("A",),
    ("XZI", "ZXZ", "IZX", "III"), tuple("I" * k + "X" + "I" * (10 - k) for k in range(11)), (LINE,), (b"X",))


def slow_letter(one, other):
    """A letter times itself is I, times I it is itself; X, Y, Z are each the product of the two others."""
    if one == other:
        return "I"
    if "I" in (one, other):
        return one if other == "I" else other
    return next(letter for letter in "XYZ" if letter not in (one, other))


def slow_product(one, other):
    return "".join(map(slow_letter, one, other))


def slow_commute(one, other):
    return sum(a != b and a != "I" and b != "I" for a, b in zip(one, other)) % 2 == 0


def slow_span(strings, many=None):
    """All products of the strings."""
    found = {"I" * (many or len(strings[0]))}
    for string in strings:
        found |= {slow_product(string, other) for other in found}
    return found


def slow_is_full(value):
    """Whether strings, each of as many places as there are, are a full lot."""
    many = len(value)
    return all(slow_commute(one, other) for one in value for other in value) and len(slow_span(value)) == 2 ** many


def all_strings(many):
    return ["".join(letters) for letters in product("IXYZ", repeat=many)]


def slow_lot(web):
    return tuple("".join("X" if w == v else "Z" if joined(web, v, w) else "I" for w in range(web.knots))
                 for v in range(web.knots))


def slow_exchanged(full, changes):
    """Letter by letter: X, Y, Z go to the letters of the change."""
    return tuple("".join("I" if letter == "I" else change["XYZ".index(letter)] for letter, change in zip(
        string, changes)) for string in full)


def mixed(draw, full):
    """Another full lot with the same span."""
    strings = list(full)
    for _ in range(3 * len(strings)):
        j, k = draw.randrange(len(strings)), draw.randrange(len(strings))
        if j != k:
            strings[j] = slow_product(strings[j], strings[k])
    draw.shuffle(strings)
    return tuple(strings)


def drawn_changes(draw, many):
    return tuple(draw.choice(CHANGES) for _ in range(many))


def drawn_full(draw, many):
    """A full lot, that of some web behind changes."""
    web = drawn_web(draw, many, draw.choice((0.2, 0.5, 0.8)))
    return mixed(draw, slow_exchanged(slow_lot(web), drawn_changes(draw, many)))


def drawn_lots(many, least=1, most=10, seed=71):
    draw = random.Random(seed)
    return [drawn_full(draw, draw.randint(least, most)) for _ in range(many)]


def all_full(many):
    """Full lots of so many places, one for each span."""
    found = {}
    for web in all_webs(many):
        for changes in product(CHANGES, repeat=many):
            full = slow_exchanged(slow_lot(web), changes)
            found.setdefault(frozenset(slow_span(full)), full)
    return list(found.values())


SMALL = [full for many in (1, 2) for full in all_full(many)]
THREES = all_full(3)
TRIED = SMALL + THREES[::9] + drawn_lots(40) + [
    slow_lot(web) for web in edge_webs()] + [tuple("I" * k + "Y" + "I" * (9 - k) for k in range(10)), LINE]


def slow_held(full, free):
    """The strings of the span with just these letters and I, but I alone."""
    return {string for string in slow_span(full) if set(string) != {"I"} and all(
        one in ("I", letter) for one, letter in zip(string, free))}


def slow_webs_by(full, free):
    """Webs that come of the lot if the free letters go to Z, and the one other letter that stands alone to X."""
    span, changes = slow_span(full), []
    for place in range(len(full)):
        (string,) = [string for string in span if string[place] not in ("I", free[place]) and all(
            one in ("I", letter) for at, (one, letter) in enumerate(zip(string, free)) if at != place)]
        letters = {string[place]: "X", free[place]: "Z"}
        changes.append("".join(letters.get(letter, "Y") for letter in "XYZ"))
    goal = slow_span(slow_exchanged(full, changes))
    rows = [next(string for string in goal if string[v] == "X" and all(
        letter in "IZ" for at, letter in enumerate(string) if at != v)) for v in range(len(full))]
    ties = tuple((v, w) for v in range(len(full)) for w in range(v + 1, len(full)) if rows[v][w] == "Z")
    return tuple(changes), Web(len(full), ties)


class Examples(Case):

    def test_lots(self):
        self.same(lot_of(Web(3, ((0, 1), (1, 2)))), LINE)
        self.same([LINE, form_of(LINE), product_of("XYZ", "ZYI"), does_commute("XZI", "ZXZ"), within(
            LINE, (0, 2)), is_full(("XX", "ZZ"))], [
            ("XZI", "ZXZ", "IZX"), ("ZXZ", "XIX", "IZX"), "YIZ", True, 2, True])

    def test_free(self):
        self.same([free_or_string(LINE, "ZZZ"), free_or_string(LINE, "XYX"), free_or_string(LINE, "ZXZ"), web_by(
            ("XX", "ZZ"), "ZX").ties, exchanged(("XX", "ZZ"), ("XYZ", "ZYX"))], [
            ("free",), ("string", "XIX"), ("string", "ZXZ"), ((0, 1),), ("XZ", "ZX")])

    def test_error(self):
        self.refused(Refused, web_by, LINE, "XXX", kept=("reason", ("string",)))


class Products(Case):
    """[17.1]"""

    def test_all_short_strings(self):
        for many in (1, 2, 3):
            for one, other in list(product(all_strings(many), repeat=2))[::1 if many < 3 else 5]:
                self.same(self.told(product_of, one, other), slow_product(one, other))
                self.judged(slow_commute(one, other), does_commute, one, other)

    def test_ten_places(self):
        draw = random.Random(1701)
        for _ in range(60):
            many = draw.randint(4, 10)
            one, other = ("".join(draw.choice("IXYZ") for _ in range(many)) for _ in range(2))
            self.same(product_of(one, other), slow_product(one, other))
            self.judged(slow_commute(one, other), does_commute, one, other)
        self.same([product_of("I" * 10, "Y" * 10), product_of("Y" * 10, "Y" * 10), does_commute("X" * 10, "Z" * 10)], [
            "Y" * 10, "I" * 10, True])


class FullLots(Case):
    """[17.2]"""

    def test_all_small_tuples(self):
        for many in (1, 2):
            for value in product(all_strings(many), repeat=many):
                self.judged(slow_is_full(value), is_full, value)
        self.assertEqual((len(SMALL), len(THREES)), (3 + 15, 135))

    def test_three_places(self):
        draw, found = random.Random(1702), []
        for _ in range(400):
            value = tuple(draw.choice(all_strings(3)) for _ in range(3))
            found.append(slow_is_full(value))
            self.judged(found[-1], is_full, value)
        for full in THREES:
            self.judged(True, is_full, full)
        self.assertGreater(min(found.count(True), found.count(False)), 2)

    def test_great_lots(self):
        draw = random.Random(1703)
        for full in TRIED:
            self.judged(True, is_full, full)
            self.judged(True, is_full, mixed(draw, full))
            if len(full) > 1:
                self.judged(False, is_full, full[:-1])
                self.judged(False, is_full, full[:-1] + full[:1])
                self.judged(False, is_full, full[:-1] + (slow_product(full[0], full[-1])[:-1],))
                self.judged(False, is_full, full[:-1] + ("I" * len(full),))
                strange = tuple(draw.choice(all_strings(1)) for _ in full)
                value = full[:-1] + ("".join(strange),)
                self.judged(slow_is_full(value), is_full, value)

    def test_wrong_values(self):
        for value in NO_FULL + tuple(bent(LINE)) + tuple(bent(("Y",))):
            if not among(value, [LINE, ("Y",)]):
                self.judged(False, is_full, value)

    def test_what_commutes_with_all_is_in_the_span(self):
        for full in SMALL + THREES[::11] + [slow_lot(PATH)]:
            span = slow_span(full)
            for string in all_strings(len(full)):
                self.assertEqual(all(slow_commute(string, other) for other in full), string in span)

    def test_forms(self):
        draw = random.Random(1704)
        for full in TRIED:
            form = self.told(form_of, full)
            self.assertEqual(slow_span(form), slow_span(full))
            self.assertEqual(len(form), len(full))
            rows = [[bit for letter in string for bit in BITS[letter]] for string in form]
            heads = [row.index(1) for row in rows]
            self.assertEqual(heads, sorted(set(heads)))
            for head in heads:
                self.assertEqual(sum(row[head] for row in rows), 1)
            self.same(form_of(mixed(draw, full)), form)
            self.same(form_of(form), form)

    def test_the_same(self):
        draw = random.Random(1705)
        for one, other in product(SMALL[:3], repeat=2):
            self.judged(one == other, are_same, one, other)
        for one, other in product(SMALL[3:], repeat=2):
            self.judged(one == other, are_same, one, mixed(draw, other))
        for full in TRIED:
            self.judged(True, are_same, full, mixed(draw, full))
            other = drawn_full(draw, len(full))
            self.judged(slow_span(full) == slow_span(other), are_same, full, other)
            self.judged(False, are_same, full, slow_lot(Web(len(full) % 10 + 1, ())))
            self.judged(False, are_same, slow_lot(Web(len(full) % 10 + 1, ())), full)


class OfWebs(Case):
    """[17.3]"""

    def test_by_definition(self):
        for web in list(webs_up_to(4)) + drawn_webs(30, seed=1706) + edge_webs():
            full = self.told(lot_of, web)
            self.same(full, slow_lot(web))
            self.judged(True, is_full, full)

    def test_within(self):
        for full in TRIED:
            span = slow_span(full)
            draw = random.Random(1707)
            for lot in lots(len(full)) if len(full) < 5 else [
                    (), tuple(range(len(full)))] + draw.sample(lots(len(full)), 12):
                found = sum(all(letter == "I" for at, letter in enumerate(string) if at not in lot) for string in span)
                self.same(self.told(within, full, lot), found)

    def test_cut_ranks(self):
        """2 ** (k - r) strings have I beyond a lot of k knots with the cut rank r."""
        for web in list(webs_up_to(4))[::3] + drawn_webs(10, most=7, seed=1708) + [ROUND, WHEEL, full_web(10)]:
            for lot in lots(web.knots)[::1 if web.knots < 7 else 41]:
                self.same(within(lot_of(web), lot), 2 ** (len(lot) - slow_cut_rank(web, lot)))


class Exchanged(Case):
    """[17.4]"""

    def test_letter_by_letter(self):
        draw = random.Random(1709)
        for full in SMALL:
            for changes in product(CHANGES, repeat=len(full)):
                found = self.told(exchanged, full, changes)
                self.same(found, slow_exchanged(full, changes))
                self.judged(True, is_full, found)
        for full in TRIED:
            changes = drawn_changes(draw, len(full))
            found = self.told(exchanged, full, changes)
            self.same(found, slow_exchanged(full, changes))
            self.judged(True, is_full, found)
            self.same(exchanged(full, ("XYZ",) * len(full)), full)

    def test_turns(self):
        """Y and Z are exchanged at the knot, X and Y at those near it."""
        for web in list(webs_up_to(4)) + drawn_webs(20, seed=1710) + edge_webs():
            for knot in range(web.knots):
                changes = tuple("XZY" if v == knot else "YXZ" if v in slow_near(web, knot) else "XYZ"
                                for v in range(web.knots))
                self.judged(True, are_same, exchanged(lot_of(web), changes), lot_of(slow_turned(web, knot)))

    def test_kin_exactly_if_changes_lead(self):
        """[17.4], which is [0.20]"""
        for many in (1, 2, 3):
            for one in all_webs(many):
                led = {frozenset(slow_span(slow_exchanged(slow_lot(one), changes)))
                       for changes in product(CHANGES, repeat=many)}
                for other in all_webs(many):
                    self.assertEqual(frozenset(slow_span(slow_lot(other))) in led, other.ties in slow_kin(one))
        for one in (PATH, STAR, Web(4, ((0, 1), (2, 3)))):
            led = {form_of(exchanged(lot_of(one), changes)) for changes in product(CHANGES, repeat=4)}
            kin = slow_kin(one)
            for other in all_webs(4):
                self.assertEqual(form_of(lot_of(other)) in led, other.ties in kin)


class Free(Case):
    """[17.5]"""

    def asked(self, full, free):
        paper = self.told(free_or_string, full, free)
        held = slow_held(full, free)
        self.judged(True, is_free_or_string, full, free, paper)
        self.judged(not held, is_free_or_string, full, free, ("free",))
        if held:
            self.assertEqual(paper[0], "string")
            self.assertIn(paper[1], held)
            self.assertEqual(len(paper), 2)
        else:
            self.same(paper, ("free",))
        return paper[0]

    def test_by_the_span(self):
        for full in SMALL + THREES[::5] + [slow_lot(PATH), slow_lot(STAR)]:
            for free in product("XYZ", repeat=len(full)):
                self.asked(full, "".join(free))
        draw, words = random.Random(1711), []
        for full in TRIED:
            words += [self.asked(full, "".join(draw.choice("XYZ") for _ in full)) for _ in range(3)]
        self.assertEqual(set(words), {"free", "string"})

    def test_all_strings(self):
        for full in SMALL[::2] + THREES[::40] + [LINE]:
            for free in list(product("XYZ", repeat=len(full)))[::2]:
                held = slow_held(full, free)
                for string in all_strings(len(full)):
                    self.judged(string in held, is_free_or_string, full, "".join(free), ("string", string))

    def test_two_of_three_letters(self):
        """At v, if no other string has I at v and else the letters that are told."""
        for full in SMALL + THREES[::7] + [slow_lot(PATH)]:
            for told in product("XYZ", repeat=len(full) - 1):
                for v in range(len(full)):
                    letters = told[:v] + ("I",) + told[v:]
                    found = sum(free_or_string(full, "".join(told[:v] + (letter,) + told[v:])) == ("free",)
                                for letter in "XYZ")
                    self.assertEqual(found, 0 if slow_held(full, letters) else 2)

    def test_each_has_free_letters(self):
        for full in SMALL + THREES:
            self.assertTrue(any(free_or_string(full, "".join(free)) == ("free",)
                                for free in product("XYZ", repeat=len(full))))
        for web in list(webs_up_to(4)) + edge_webs():
            self.same(free_or_string(lot_of(web), "Z" * web.knots), ("free",))

    def test_wrong_papers(self):
        for free, right in (("XYX", ("string", "XIX")), ("ZZZ", ("free",))):
            wrong = STRAYS + tuple(bent(right)) + (
                ("string",), ("free", ()), ("free", "XIX"), ("string", "III"), ("string", ""), ("string", "XI"),
                ("string", "XIXI"), ("string", "xix"), ("string", ("X", "I", "X")), ("string", ["X", "I", "X"]),
                ("string", None), ("string", "XYX"), ("string", "ZIX"), right + (0,), list(right), right[0], (right,),
                "XIX", ("string", "IYI"), ("held", "XIX"), ("XIX", "string"), (None,), ("string", "XIX", "XIX"),
                ("string", 10 ** 5000), (10 ** 5000,))
            for value in wrong:
                if value != right:
                    self.judged(False, is_free_or_string, LINE, free, value)
            self.judged(True, is_free_or_string, LINE, free, right)


class WebsOfLots(Case):
    """[17.5]"""

    def test_web_by_free_letters(self):
        draw, many = random.Random(1712), 0
        for full in SMALL + THREES[::5] + TRIED + [slow_lot(PATH)]:
            frees = ["".join(free) for free in product("XYZ", repeat=len(full))]
            for free in frees if len(full) < 4 else draw.sample(frees, 3):
                if slow_held(full, free):
                    self.refused(Refused, web_by, full, free, kept=("reason", ("string",)))
                else:
                    many += 1
                    changes, web = slow_webs_by(full, free)
                    self.assertEqual(self.told(web_by, full, free), web)
                    self.assertEqual(slow_span(slow_exchanged(full, changes)), slow_span(slow_lot(web)))
                    self.judged(True, is_web_in, full, (changes, web))
        self.assertGreater(many, 100)

    def test_of_a_web(self):
        for web in list(webs_up_to(4)) + drawn_webs(20, seed=1713) + edge_webs():
            self.assertEqual(web_by(lot_of(web), "Z" * web.knots), web)
            self.judged(True, is_web_in, lot_of(web), (("XYZ",) * web.knots, web))

    def test_any_pair(self):
        for full in SMALL + THREES + TRIED:
            changes, web = paper = self.told(web_in, full)
            self.judged(True, is_web_in, full, paper)
            self.assertTrue(len(changes) == len(full) and all(change in CHANGES for change in changes))
            self.assertEqual(slow_span(slow_exchanged(full, changes)), slow_span(slow_lot(web)))

    def test_all_pairs(self):
        for full in SMALL[::2] + THREES[::67]:
            webs = {frozenset(slow_span(slow_lot(web))): web for web in all_webs(len(full))}
            found = 0
            for changes in product(CHANGES, repeat=len(full)):
                right = webs.get(frozenset(slow_span(slow_exchanged(full, changes))))
                found += right is not None
                for web in all_webs(len(full)):
                    self.judged(web == right, is_web_in, full, (changes, web))
            self.assertGreater(found, 0)

    def test_wrong_papers(self):
        for full in (LINE, ("XX", "ZZ"), ("Y",)):
            right = web_in(full)
            changes, web = right
            wrong = STRAYS + tuple(bent(right)) + (
                right[::-1], changes, web, right + (0,), list(right), (right,), (changes, None), (changes, web.ties),
                (changes + ("XYZ",), web), (changes[1:], web), (list(changes), web), ("".join(changes), web),
                (changes[1:] + ("XYY",), web), (changes[1:] + ("XYZ ",), web), (changes[1:] + (None,), web),
                (changes[1:] + (("X", "Y", "Z"),), web), (changes[1:] + ("xyz",), web), (changes, Web(4, ())),
                (changes, Web(1, ())) if full != ("Y",) else None, (changes[1:] + ("",), web),
                (changes[1:] + (10 ** 5000,), web), (changes[1:] + ("IXZ",), web), ((), web))
            for value in wrong:
                if not among(value, [right]):
                    self.judged(False, is_web_in, full, value)
            self.judged(True, is_web_in, full, right)


class Refusals(Case):

    def test_strings(self):
        for value in NO_STRINGS:
            if not among(value, ["X"]):
                for function in (product_of, does_commute):
                    self.refused(InvalidString, function, value, "X")
                    self.refused(InvalidString, function, "X", value)
                    self.refused(InvalidString, function, value, None)
                    self.refused(InvalidString, function, "XXX", value)
        for one, other in (("X", "XX"), ("XYZ", "XY"), ("I" * 10, "I" * 9)):
            for function in (product_of, does_commute):
                self.refused(InvalidOperation, function, one, other)
                self.refused(InvalidOperation, function, other, one)

    def test_web(self):
        for value in NO_WEBS:
            self.refused(InvalidWeb, lot_of, value)

    def test_full(self):
        for value in NO_FULL:
            for function in (form_of, web_in):
                self.refused(InvalidString, function, value)
            self.refused(InvalidString, are_same, value, LINE)
            self.refused(InvalidString, are_same, LINE, value)
            self.refused(InvalidString, are_same, value, value)
            for argument in ((), (9,), None):
                self.refused(InvalidString, within, value, argument)
                self.refused(InvalidString, exchanged, value, argument)
                self.refused(InvalidString, is_web_in, value, argument)
            for free in ("X", "ZZ", None):
                self.refused(InvalidString, free_or_string, value, free)
                self.refused(InvalidString, web_by, value, free)
                self.refused(InvalidString, is_free_or_string, value, free, ("free",))

    def test_lot(self):
        for value in NO_LOTS + ((3,), (0, 3), (2, 1)):
            self.refused(InvalidLot, within, LINE, value)

    def test_changes(self):
        wrong = STRAYS + (
            ("XYZ",), ("XYZ",) * 2, ("XYZ",) * 4, ["XYZ"] * 3, "XYZ", ("XYZ", "XYZ", "XYY"), ("XYZ", "XYZ", "xyz"),
            ("XYZ", "XYZ", None), ("XYZ", "XYZ", ("X", "Y", "Z")), ("XYZ", "XYZ", ["X", "Y", "Z"]),
            ("XYZ", "XYZ", "XYZI"), ("XYZ", "XYZ", ""), ("XYZ", "XYZ", "XY"), {0: "XYZ"}, ("XYZ", "XYZ", "IYZ"))
        for value in wrong:
            self.refused(InvalidOperation, exchanged, LINE, value)

    def test_free(self):
        wrong = STRAYS + ("ZZ", "ZZZZ", "ZIZ", "zzz", "ZZ ", ("Z", "Z", "Z"), ["Z", "Z", "Z"], "III", ("ZZZ",), "AAA")
        for value in wrong:
            self.refused(InvalidString, free_or_string, LINE, value)
            self.refused(InvalidString, web_by, LINE, value)
            for paper in (("free",), ("string", "XIX"), None):
                self.refused(InvalidString, is_free_or_string, LINE, value, paper)


class NotTrue(Case):
    """[17.6]"""

    def test_commuting_strings_are_in_several(self):
        self.assertTrue(slow_commute("XI", "XI"))
        for full in (("XI", "IX"), ("XI", "IZ")):
            self.assertIn("XI", slow_span(full))
            self.judged(True, is_full, full)
        self.judged(False, are_same, ("XI", "IX"), ("XI", "IZ"))

    def test_free_behind_changes(self):
        self.same([free_or_string(full, "Z") for full in (("X",), exchanged(("X",), ("ZYX",)))], [
            ("free",), ("string", "Z")])

    def test_no_web(self):
        self.assertTrue(all(not are_same(("Z",), lot_of(web)) for web in all_webs(1)))

    def test_turned(self):
        """The full lot of a turned web is another one."""
        self.judged(False, are_same, lot_of(PATH), lot_of(turned(PATH, 1)))
        self.judged(True, are_same, lot_of(beside(path_web(2), Web(1, ()))), lot_of(Web(3, ((0, 1),))))


if __name__ == "__main__":
    unittest.main()
