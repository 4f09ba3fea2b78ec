"""Stage 18: letters told [18.1] to [18.6], and what [0.20] tells of them."""

import random
import unittest
from itertools import permutations, product

from tests.helper import (
    PATH, ROUND, STAR, STRAYS, WHEEL, Case, all_webs, among, bent, drawn_webs, edge_webs, full_web, is_knot, lots,
    path_web, round_web, slow_kin, slow_left_out, slow_near, slow_turned, webs_up_to)
from tests.test_cuts import NO_LOTS
from tests.test_lots import (
    CHANGES, LINE, NO_FULL, NO_STRINGS, SMALL, THREES, drawn_lots, mixed, slow_exchanged, slow_lot,
    slow_product, slow_span)
from tests.test_sums import drawn_kin
from tests.test_webs import NO_WEBS
from tiedanew.errors import InvalidLot, InvalidNumber, InvalidOperation, InvalidString, InvalidWeb, Refused, TooMany
from tiedanew.lesser.steps import lesser_web
from tiedanew.string.lots import form_of, is_full, lot_of, web_in
from tiedanew.string.told import (
    is_tells_for, is_web_told, outcome_count, sure_of, tells_for, told_at, told_by, web_told)
from tiedanew.web.webs import Web, beside

TWO = ("XX", "ZZ")
TRIED = SMALL + THREES[::7] + drawn_lots(30, seed=1801) + [LINE] + [slow_lot(web) for web in edge_webs()]
WEBS = list(webs_up_to(4)) + drawn_webs(20, seed=1802) + edge_webs() + [WHEEL, round_web(8), beside(ROUND, STAR)]


def slow_told(full, tells):
    """The strings of the span with I or the told letter where one is told, those places cut away."""
    return {"".join(letter for letter, told in zip(string, tells) if told == "I") for string in slow_span(full)
            if all(told == "I" or letter in ("I", told) for letter, told in zip(string, tells))}


def slow_sure(full, tells):
    """The strings of the span with just the told letters, and I."""
    return {string for string in slow_span(full) if all(letter in ("I", told) for letter, told in zip(string, tells))}


def slow_three(web, knot):
    """The webs that Z, Y, X leave, the swing being with the least near knot; the turns of Y and X."""
    close = slow_near(web, knot)
    if not close:
        return [slow_left_out(web, knot)] * 3
    behind = slow_turned(web, knot)
    swung = slow_turned(slow_turned(behind, close[0]), knot)
    return [slow_left_out(each, knot) for each in (web, behind, swung)]


def drawn_tells(draw, many, told=0.5):
    return "".join(draw.choice("XYZ") if draw.random() < told else "I" for _ in range(many))


class Examples(Case):

    def test_told(self):
        self.same([told_at(LINE, 1, letter) for letter in "XYZ"], [("ZZ", "XX"), ("ZY", "XX"), ("XI", "IX")])
        self.same([told_at(TWO, 0, "Z"), told_by(LINE, "XIX"), sure_of(LINE, "XIX"), sure_of(
            LINE, "ZIZ"), outcome_count(LINE, "XIX"), outcome_count(LINE, "ZZI")], [
            ("Z",), ("Z",), ("XIX",), (), 2, 4])

    def test_webs(self):
        self.same([web_told(Web(3, ((0, 1), (1, 2))), 1, letter)[1].ties for letter in "ZYX"], [
            (), ((0, 1),), ((0, 1),)])

    def test_error(self):
        self.refused(Refused, told_at, ("X",), 0, "Z", kept=("reason", ("last",)))


class Told(Case):
    """[18.1]"""

    def test_all_strings_of_the_span(self):
        for full in TRIED:
            for place in range(len(full) if len(full) > 1 else 0):
                for letter in "XYZ":
                    left = self.told(told_at, full, place, letter)
                    tells = "I" * place + letter + "I" * (len(full) - place - 1)
                    self.assertEqual(slow_span(left), slow_told(full, tells))
                    self.judged(True, is_full, left)
                    self.same(left, form_of(left))
                    self.same(told_by(full, tells), left)

    def test_half_or_all_of_the_span_stays(self):
        for full in TRIED:
            for place in range(len(full)):
                for letter in "XYZ":
                    alone = "I" * place + letter + "I" * (len(full) - place - 1)
                    kept = [string for string in slow_span(full) if string[place] in ("I", letter)]
                    self.assertEqual(len(kept), 2 ** len(full) if alone in slow_span(full) else 2 ** (len(full) - 1))

    def test_the_span_alone_counts(self):
        draw = random.Random(1803)
        for full in TRIED:
            other, tells = mixed(draw, full), drawn_tells(draw, len(full))
            for function in (sure_of, outcome_count) + ((told_by,) if "I" in tells else ()):
                self.same(function(full, tells), function(other, tells))


class AnySequence(Case):
    """[18.2]"""

    def one_by_one(self, full, tells, order):
        """The letters told one behind the other, the places numbered as they are then."""
        places = list(range(len(full)))
        for place in order:
            full = told_at(full, places.index(place), tells[place])
            places.remove(place)
        return full

    def test_all_sequences(self):
        draw = random.Random(1804)
        for full in [full for full in TRIED if len(full) > 1]:
            for _ in range(4):
                tells = drawn_tells(draw, len(full))
                if "I" not in tells:
                    continue
                left = self.told(told_by, full, tells)
                self.assertEqual(slow_span(left), slow_told(full, tells))
                self.judged(True, is_full, left)
                self.same(left, form_of(left))
                told = [place for place, letter in enumerate(tells) if letter != "I"]
                orders = list(permutations(told)) if len(told) < 4 else [
                    tuple(draw.sample(told, len(told))) for _ in range(5)]
                for order in orders:
                    self.same(form_of(self.one_by_one(full, tells, order)), left)

    def test_no_letter_told(self):
        for full in TRIED:
            self.same(told_by(full, "I" * len(full)), form_of(full))

    def test_all_letters_told(self):
        draw = random.Random(1805)
        for full in TRIED:
            tells = drawn_tells(draw, len(full), 2)
            self.refused(Refused, told_by, full, tells, kept=("reason", ("last",)))
            self.same(len(told_by(full, "I" + tells[1:])), 1)


class Sure(Case):
    """[18.3]"""

    def test_all_strings_of_the_span(self):
        draw = random.Random(1806)
        for full in TRIED:
            for tells in [drawn_tells(draw, len(full), share) for share in (0.5, 0.8, 2)] + ["I" * len(full)]:
                sure = self.told(sure_of, full, tells)
                self.assertEqual(slow_span(sure, len(full)), slow_sure(full, tells))
                self.assertEqual(2 ** len(sure), len(slow_sure(full, tells)))
                self.assertTrue(all(set(string) != {"I"} for string in sure))

    def test_all_tells(self):
        for full in SMALL + THREES[::23] + [LINE, slow_lot(PATH)]:
            for letters in product("IXYZ", repeat=len(full)):
                tells = "".join(letters)
                found = slow_sure(full, tells)
                self.assertEqual(slow_span(sure_of(full, tells), len(full)), found)
                for one, other in product(found, repeat=2):
                    self.assertIn(slow_product(one, other), found)

    def test_reduced_basis(self):
        bits = {"I": "00", "Z": "10", "X": "01", "Y": "11"}
        draw = random.Random(1807)
        for full in TRIED:
            sure = sure_of(full, drawn_tells(draw, len(full), 2))
            rows = ["".join(bits[letter] for letter in string) for string in sure]
            heads = [row.index("1") for row in rows]
            self.assertEqual(heads, sorted(set(heads)))
            self.assertTrue(all(sum(row[head] == "1" for row in rows) == 1 for head in heads))

    def test_rows_of_outcomes(self):
        """As many as keep the product at each sure string, by all rows."""
        draw, found = random.Random(1808), set()
        for full in [full for full in TRIED if len(full) < 9]:
            for tells in [drawn_tells(draw, len(full), share) for share in (0.5, 2)] + ["I" * len(full)]:
                places = [place for place, letter in enumerate(tells) if letter != "I"]
                sure = slow_sure(full, tells)
                rows = sum(all(sum(bit for bit, place in zip(row, places) if string[place] != "I") % 2 == 0
                               for string in sure) for row in product((0, 1), repeat=len(places)))
                self.same(self.told(outcome_count, full, tells), rows)
                found.add(rows)
        self.assertGreater(len(found), 4)
        self.same([outcome_count(tuple(slow_lot(Web(10, ()))), letter * 10) for letter in "XYI"], [1, 1024, 1])


class ThreeWays(Case):
    """[18.4]"""

    def test_what_the_letters_leave(self):
        for web in WEBS:
            for knot in range(web.knots if web.knots > 1 else 0):
                for letter, lesser in zip("ZYX", slow_three(web, knot)):
                    changes, left = paper = self.told(web_told, web, knot, letter)
                    self.judged(True, is_web_told, web, knot, letter, paper)
                    self.assertEqual(left, lesser)
                    self.assertEqual(len(changes), web.knots - 1)
                    self.assertTrue(all(change in CHANGES for change in changes))
                    tells = "I" * knot + letter + "I" * (web.knots - knot - 1)
                    stays = slow_told(slow_lot(web), tells)
                    self.assertEqual({string for string in slow_exchanged(stays, changes)}, slow_span(slow_lot(left)))

    def test_z_leaves_the_very_lot(self):
        for web in WEBS:
            for knot in range(web.knots if web.knots > 1 else 0):
                self.same(told_at(lot_of(web), knot, "Z"), form_of(lot_of(slow_left_out(web, knot))))

    def test_a_knot_alone(self):
        for web, knot in ((Web(2, ()), 0), (Web(10, ()), 9), (beside(PATH, Web(1, ())), 4), (beside(
                Web(1, ()), ROUND), 0)):
            left = slow_left_out(web, knot)
            for letter in "XYZ":
                self.assertEqual(web_told(web, knot, letter)[1], left)
                self.same(told_at(lot_of(web), knot, letter), form_of(lot_of(left)))

    def test_any_near_knot(self):
        """Swung along another tie, what X leaves is the same behind changes: a kin web."""
        for web in list(webs_up_to(4)) + list(all_webs(5))[::41]:
            for knot in range(web.knots):
                for other in slow_near(web, knot):
                    swung = slow_turned(slow_turned(slow_turned(web, knot), other), knot)
                    self.assertIn(slow_left_out(swung, knot).ties, slow_kin(web_told(web, knot, "X")[1]))

    def test_all_changes(self):
        for web, knot in ((PATH, 1), (STAR, 0), (full_web(3), 2), (Web(3, ((0, 1),)), 2), (Web(2, ((0, 1),)), 0)):
            for letter, left in zip("ZYX", slow_three(web, knot)):
                tells = "I" * knot + letter + "I" * (web.knots - knot - 1)
                stays, goal, found = slow_told(slow_lot(web), tells), slow_span(slow_lot(left)), 0
                for changes in product(CHANGES, repeat=web.knots - 1):
                    right = set(slow_exchanged(stays, changes)) == goal
                    found += right
                    self.judged(right, is_web_told, web, knot, letter, (changes, left))
                self.assertGreater(found, 0)

    def test_other_webs(self):
        """Also kin ones, to whose full lots changes lead: just one web is left."""
        kin = 0
        for letter, left in zip("ZYX", slow_three(PATH, 1)):
            stays = slow_told(slow_lot(PATH), "I" + letter + "II")
            for web in all_webs(3):
                for changes in product(CHANGES, repeat=3):
                    leads = set(slow_exchanged(stays, changes)) == slow_span(slow_lot(web))
                    kin += leads and web != left
                    self.judged(leads and web == left, is_web_told, PATH, 1, letter, (changes, web))
        self.assertGreater(kin, 0)

    def test_wrong_papers(self):
        for letter in "XYZ":
            right = web_told(PATH, 1, letter)
            changes, left = right
            wrong = STRAYS + tuple(bent(right)) + (
                right[::-1], changes, left, right + (0,), list(right), (right,), (changes, None), (changes, left.ties),
                (changes + ("XYZ",), left), (changes[1:], left), (list(changes), left), ("".join(changes), left),
                (changes[1:] + ("XYY",), left), (changes[1:] + (None,), left), (changes, PATH), (changes, Web(1, ())),
                (changes[1:] + (("X", "Y", "Z"),), left), (None, left), ((), left), (changes[1:] + ("zxy ",), left),
                (("ZYX",) + changes[1:], left), (changes[1:] + (10 ** 5000,), left))
            for value in wrong:
                if not among(value, [right]):
                    self.judged(False, is_web_told, PATH, 1, letter, value)


class NoOthers(Case):
    """[18.5]"""

    def test_kin_to_one_of_three(self):
        draw = random.Random(1809)
        for web in [web for web in webs_up_to(4) if web.knots > 1] + drawn_webs(12, most=6, seed=1810):
            for _ in range(4):
                knot = draw.randrange(web.knots)
                behind = slow_left_out(drawn_kin(draw, web, draw.randint(0, 9)), knot)
                kin = slow_kin(behind)
                self.assertTrue(any(web_told(web, knot, letter)[1].ties in kin for letter in "XYZ"))

    def leaves(self, web, lesser, tells):
        """Whether what stays is, behind changes, the full lot of the lesser web, by turning again and again."""
        return lesser.ties in slow_kin(web_in(told_by(slow_lot(web), tells))[1])

    def asked(self, web, lesser, lot):
        tells = self.told(tells_for, web, lesser, lot)
        self.judged(True, is_tells_for, web, lesser, lot, tells)
        if tells is not None:
            self.assertEqual([v for v in range(web.knots) if tells[v] != "I"], list(lot))
            self.assertTrue(set(tells) <= set("IXYZ") and len(tells) == web.knots)
            self.assertTrue(self.leaves(web, lesser, tells))
            self.judged(False, is_tells_for, web, lesser, lot, None)
        return tells

    def test_all_letters_of_small_webs(self):
        """EXACTLY IF it is a lesser web: kin to one left by some ways."""
        found = set()
        for web in list(webs_up_to(3)) + [PATH, STAR, full_web(4), Web(4, ((0, 1), (2, 3))), Web(4, ((1, 3),))]:
            for lot in [lot for lot in lots(web.knots) if len(lot) < web.knots]:
                beyond = tuple(v for v in range(web.knots) if v not in lot)
                kin = set()
                for ways in product(range(3), repeat=len(lot)):
                    kin |= set(slow_kin(lesser_web(web, beyond, ways)))
                for lesser in all_webs(len(beyond)):
                    tells = self.asked(web, lesser, lot)
                    found.add(tells is None)
                    self.assertEqual(tells is not None, lesser.ties in kin)
        self.assertEqual(found, {True, False})

    def test_all_strings(self):
        for web, lesser, lot in ((PATH, path_web(2), (0, 3)), (STAR, Web(2, ()), (0, 2)), (STAR, path_web(3), (0,)), (
                PATH, Web(3, ()), (1,)), (path_web(3), path_web(3), ()), (PATH, STAR, ())):
            none = True
            for letters in product("IXYZ", repeat=web.knots):
                tells = "".join(letters)
                right = [v for v in range(web.knots) if tells[v] != "I"] == list(lot) and self.leaves(
                    web, lesser, tells)
                none = none and not right
                self.judged(right, is_tells_for, web, lesser, lot, tells)
            self.judged(none, is_tells_for, web, lesser, lot, None)

    def test_great_webs(self):
        draw = random.Random(1811)
        for web in drawn_webs(10, least=6, seed=1812) + [WHEEL, round_web(10), full_web(10), Web(10, ())]:
            for size in (0, 1, 2, 3, 4):
                lot = tuple(sorted(draw.sample(range(web.knots), size)))
                ways = tuple(draw.randrange(3) for _ in lot)
                lesser = lesser_web(web, tuple(v for v in range(web.knots) if v not in lot), ways)
                tells = self.told(tells_for, web, lesser, lot)
                self.assertIsNotNone(tells)
                self.judged(True, is_tells_for, web, lesser, lot, tells)
                self.judged(False, is_tells_for, web, lesser, lot, None)

    def test_wrong_papers(self):
        web, lesser, lot = PATH, path_web(2), (0, 3)
        right = tells_for(web, lesser, lot)
        wrong = STRAYS[1:] + tuple(value for value in bent(right) if value is not None) + NO_STRINGS[1:] + (
            "IIII", "XIX", "XIIXI", "XXII", "XXXX", "xiix", (right,), list(right), tuple(right), right + "I", False)
        for value in wrong:
            if value is not None and not among(value, [right]):
                self.judged(False, is_tells_for, web, lesser, lot, value)
        self.assertIsNotNone(right)


class Refusals(Case):

    def test_full(self):
        for value in NO_FULL:
            for place, letter in ((0, "X"), (None, None), (99, "X")):
                self.refused(InvalidString, told_at, value, place, letter)
            for tells in ("X", "IX", None):
                for function in (told_by, sure_of, outcome_count):
                    self.refused(InvalidString, function, value, tells)

    def test_place_and_letter(self):
        for value in STRAYS + (3, -1, "0", (0,)):
            if not is_knot(value, 3):
                self.refused_number(InvalidNumber, told_at, LINE, value, "X", at=1)
                self.refused_number(InvalidNumber, told_at, LINE, value, "I", at=1)
                self.refused_number(InvalidNumber, told_at, LINE, value, None, at=1)
        for value in STRAYS + ("I", "x", "XX", "W", ("X",), ["X"], 0, "X "):
            self.refused(InvalidString, told_at, LINE, 1, value)
            self.refused(InvalidString, told_at, ("X",), 0, value)
            self.refused(InvalidString, web_told, PATH, 1, value)
            self.refused(InvalidString, web_told, Web(1, ()), 0, value)
            for paper in (None, ((), Web(1, ()))):
                self.refused(InvalidString, is_web_told, PATH, 1, value, paper)
        for full in (("X",), ("Y",), ("Z",)):
            for letter in "XYZ":
                self.refused(Refused, told_at, full, 0, letter, kept=("reason", ("last",)))
        self.refused_number(InvalidNumber, told_at, ("X",), 1, "X", at=1)

    def test_tells(self):
        wrong = NO_STRINGS + ("X", "XI", "XIXI", "xix", "XI ", ("X", "I", "X"), ["X", "I", "X"], "AIA")
        for value in wrong:
            for function in (told_by, sure_of, outcome_count):
                self.refused(InvalidString, function, LINE, value)
        for function in (sure_of, outcome_count):
            self.told(function, LINE, "XYZ")
        for tells in ("XYZ", "ZZZ"):
            self.refused(Refused, told_by, LINE, tells, kept=("reason", ("last",)))

    def test_web_and_knot(self):
        for value in NO_WEBS:
            self.refused(InvalidWeb, web_told, value, 0, "X")
            self.refused(InvalidWeb, web_told, value, None, None)
            self.refused(InvalidWeb, is_web_told, value, 0, "X", None)
            for lot in ((), (1,), None):
                self.refused(InvalidWeb, tells_for, value, PATH, lot)
                self.refused(InvalidWeb, tells_for, PATH, value, lot)
                self.refused(InvalidWeb, is_tells_for, value, PATH, lot, "XIII")
                self.refused(InvalidWeb, is_tells_for, PATH, value, lot, None)
        for value in STRAYS + (4, -1):
            if not is_knot(value, 4):
                self.refused_number(InvalidNumber, web_told, PATH, value, "X", at=1)
                self.refused_number(InvalidNumber, web_told, PATH, value, "I", at=1)
                self.refused_number(InvalidNumber, is_web_told, PATH, value, None, None, at=1)
        for letter in "XYZ":
            self.refused(Refused, web_told, Web(1, ()), 0, letter, kept=("reason", ("last",)))
            for paper in (None, ((), Web(1, ()))):
                self.refused(Refused, is_web_told, Web(1, ()), 0, letter, paper, kept=("reason", ("last",)))
        self.refused_number(InvalidNumber, web_told, Web(1, ()), 1, "X", at=1)

    def test_lot(self):
        for value in NO_LOTS:
            self.refused(InvalidLot, tells_for, PATH, path_web(3), value)
            self.refused(InvalidLot, tells_for, PATH, full_web(10), value)
            for paper in (None, "XIII"):
                self.refused(InvalidLot, is_tells_for, PATH, path_web(3), value, paper)

    def test_as_many_knots_as_beyond(self):
        for web, lesser, lot in ((PATH, PATH, (0,)), (PATH, path_web(3), ()), (PATH, path_web(3), (0, 1)), (
                PATH, Web(1, ()), (0, 1, 2, 3)), (full_web(10), full_web(6), (0, 1, 2, 3, 4))):
            self.refused(InvalidOperation, tells_for, web, lesser, lot)
            for paper in (None, "XIII", 0):
                self.refused(InvalidOperation, is_tells_for, web, lesser, lot, paper)

    def test_more_than_four(self):
        for web, lot in ((full_web(10), (0, 1, 2, 3, 9)), (Web(6, ()), (0, 1, 2, 3, 4)), (full_web(10),
                tuple(range(9)))):
            lesser = Web(web.knots - len(lot), ())
            self.refused(TooMany, tells_for, web, lesser, lot, kept=("limit", 4))
            for paper in (None, "X" * len(lot) + "I", 0):
                self.refused(TooMany, is_tells_for, web, lesser, lot, paper, kept=("limit", 4))
        self.assertIsNotNone(tells_for(Web(5, ()), Web(1, ()), (0, 1, 2, 3)))


class NotTrue(Case):
    """[18.6]"""

    def test_unlike_webs(self):
        one, other = (web_told(path_web(3), 1, letter)[1] for letter in "YX")
        self.assertEqual(one, other)

    def test_letters_at_two_places(self):
        self.assertNotEqual(told_by(LINE, "XIX"), told_by(LINE, "ZIZ"))

    def test_kin_left_of_strange_webs(self):
        one, other = Web(2, ()), Web(2, ((0, 1),))
        self.assertEqual(web_told(one, 0, "Z")[1], web_told(other, 0, "Z")[1])
        self.assertNotIn(other.ties, slow_kin(one))


if __name__ == "__main__":
    unittest.main()
