"""Stage 13: twigs and twins [13.1] to [13.8], which is [0.19]."""

import random
import unittest
from itertools import product

from tests.helper import (
    DEEP, PATH, ROUND, STAR, STRAYS, WHEEL, Case, all_webs, among, bent, drawn_web, drawn_webs, edge_webs, full_web,
    is_knot, joined, pairs_of, path_web, round_web, slow_behind, slow_cut_rank, slow_kin, slow_near, slow_turned,
    star_web, webs_up_to)
from tests.test_marks import BARRED, PRISM
from tests.test_steps import drawn_steps
from tests.test_webs import NO_WEBS
from tiedanew.errors import InvalidNumber, InvalidOperation, InvalidWeb, TooMany
from tiedanew.lesser import twigs
from tiedanew.lesser.steps import is_steps, ways_webs, web_behind
from tiedanew.lesser.twigs import (
    bundles, first_order, grown, is_order, is_order_or_five, loose_rows, order_or_five, web_of_order)
from tiedanew.web.webs import Web, beside, left_out, renamed, turned

ROW = Web(3, ((0, 1), (1, 2)))
WORDS = ("alone", "leaf", "tied", "untied")
SMALL = list(webs_up_to(4))
FIVES = list(all_webs(5))
GREAT = drawn_webs(40, least=5, seed=1301) + edge_webs() + BARRED
NO_ORDERS = STRAYS + (
    ((0, "alone", 1),), ((1, "alone", 1),), ((0, "leaf", 0),), ((0, "tied", 0),), ((0, "untied", 0),),
    (("alone", 0, 0),),
    ((0, "alone"),), ((0, "alone", 0, 0),), [(0, "alone", 0)], ([0, "alone", 0],), ((False, "alone", 0),),
    ((0, "alone", False),), ((0, "Alone", 0),), ((0, "twin", 0),), ((0, None, 0),), ((0, ("alone",), 0),),
    (0, "alone", 0),
    ((0, "alone", 0), (0, "alone", 0)), ((0, "leaf", 1), (1, "leaf", 0)), ((0, "alone", 0), (1, "leaf", 0)),
    ((0, "alone", 0), (2, "alone", 2)), ((1, "alone", 1), (2, "alone", 2)), ((0, "leaf", 1), (1, "alone", 0)),
    ((0, "alone", 1), (1, "alone", 1)), ((0, "leaf", 2), (1, "alone", 1)), ((0, "leaf", -1), (1, "alone", 1)),
    ((0, "leaf", 10 ** 60), (1, "alone", 1)), ((0, "leaf", True), (1, "alone", 1)),
    ((0, "leaf", None), (1, "alone", 1)),
    ((-1, "alone", -1),), ((0, "leaf", 1), (1, "alone", 1), (0, "leaf", 1)), {0: (0, "alone", 0)}, DEEP,
    ((0, "leaf", 1), (1, "tied", 2)), ((0, "leaf", 1), None), tuple((v, "alone", v) for v in range(11)),
    (((0, "alone", 0),),), "alone", ((Web(1, ()), "alone", Web(1, ())),), ((0, "leaf", (1,)), (1, "alone", 1)))


def slow_stands(web, knots, row):
    """Whether the knot stands so in the web of these knots [13.1]."""
    v, word, w = row
    close = {k: {other for other in knots if other != k and joined(web, k, other)} for k in knots}
    if word == "alone":
        return v == w and not close[v]
    if v == w or w not in knots:
        return False
    if word == "leaf":
        return close[v] == {w}
    return joined(web, v, w) == (word == "tied") and close[v] - {w} == close[w] - {v}


def slow_rows(web, knots):
    return [row for row in sorted(product(knots, WORDS, knots)) if slow_stands(web, knots, row)]


def slow_is_order(web, value):
    """Each row tells how its knot stands among those whose rows do not come ahead of it [13.2]."""
    left = list(range(web.knots))
    for row in value:
        if row[0] not in left or not slow_stands(web, left, row):
            return False
        left.remove(row[0])
    return not left


def all_orders(web, left=None):
    """All orders, by taking loose knots in every sequence."""
    left = list(range(web.knots)) if left is None else left
    if not left:
        yield ()
        return
    for row in slow_rows(web, left):
        for others in all_orders(web, [v for v in left if v != row[0]]):
            yield (row,) + others


def drawn_order(draw, web):
    """An order of loose knots drawn one by one; None if it gets stuck."""
    left, order = list(range(web.knots)), ()
    while left:
        rows = slow_rows(web, left)
        if not rows:
            return None
        order += (draw.choice(rows),)
        left.remove(order[-1][0])
    return order


def all_forms(many):
    """All tuples of rows as told in [13.3]."""
    for knots in product(range(many), repeat=many):
        if len(set(knots)) == many:
            choices = []
            for k, v in enumerate(knots):
                choices.append([(v, "alone", v)] + [(v, word, w) for word in WORDS[1:] for w in knots[k + 1:]])
            yield from product(*choices)


def drawn_form(draw, many):
    knots = draw.sample(range(many), many)
    rows = []
    for k, v in enumerate(knots):
        word = draw.choice(WORDS) if k + 1 < many else "alone"
        rows.append((v, word, v if word == "alone" else draw.choice(knots[k + 1:])))
    return tuple(rows)


def slow_web_of(order):
    """Knots put in from the last row to the first one, tie by tie."""
    ties = set()
    for v, word, w in order[::-1]:
        close = {sum(tie) - w for tie in ties if w in tie}
        close = {"alone": set(), "leaf": {w}, "tied": close | {w}, "untied": close}[word]
        ties |= {(min(v, k), max(v, k)) for k in close}
    return Web(len(order), tuple(sorted(ties)))


def is_round(web):
    return web.knots == 5 and all(len(slow_near(web, v)) == 2 for v in range(5))


FORMS = [drawn_form(random.Random(seed), 1 + seed % 10) for seed in range(120)]


class Examples(Case):

    def test_rows_and_orders(self):
        self.same([loose_rows(ROW), first_order(ROW), loose_rows(ROUND), first_order(ROUND)], [
            ((0, "leaf", 1), (0, "untied", 2), (2, "leaf", 1), (2, "untied", 0)),
            ((0, "leaf", 1), (1, "leaf", 2), (2, "alone", 2)), (), None])

    def test_webs_and_bundles(self):
        self.same(web_of_order(((2, "untied", 0), (0, "tied", 1), (1, "alone", 1))).ties, ((0, 1), (1, 2)))
        self.same([bundles(first_order(ROW)), grown(ROW, "tied", 0).ties], [
            ((0,), (0, 1), (0, 1, 2)), ((0, 1), (0, 3), (1, 2), (1, 3))])

    def test_papers(self):
        self.same(order_or_five(ROW)[0], "order")
        self.judged(True, is_order_or_five, ROUND, ("five", ()))
        self.judged(True, is_order_or_five, ROUND, ("five", (("turn", 0), ("turn", 0))))

    def test_error_and_constant(self):
        self.refused(InvalidOperation, web_of_order, ((0, "leaf", 1), (1, "alone", 0)))
        self.same(twigs.WORDS, ("alone", "leaf", "tied", "untied"))


class Loose(Case):

    def test_by_definition(self):
        for web in SMALL + FIVES[::5] + GREAT:
            self.same(self.told(loose_rows, web), tuple(slow_rows(web, range(web.knots))))

    def test_edges(self):
        self.same(loose_rows(Web(1, ())), ((0, "alone", 0),))
        self.same(loose_rows(Web(2, ())), ((0, "alone", 0), (0, "untied", 1), (1, "alone", 1), (1, "untied", 0)))
        self.same(loose_rows(Web(2, ((0, 1),))), ((0, "leaf", 1), (0, "tied", 1), (1, "leaf", 0), (1, "tied", 0)))
        self.same([len(loose_rows(full_web(10))), len(loose_rows(Web(10, ())))], [90, 100])
        self.same(loose_rows(round_web(10)), ())

    def test_two_knots_of_cut_rank_1(self):
        """A row of both, or one of them alone, EXACTLY IF the lot of both has cut rank at most 1 [13.6]."""
        for web in SMALL + FIVES[::3] + drawn_webs(30, seed=1302):
            rows = loose_rows(web)
            for v, w in pairs_of(web.knots):
                some = any({row[0], row[2]} == {v, w} or row in ((v, "alone", v), (w, "alone", w)) for row in rows)
                self.assertEqual(some, slow_cut_rank(web, (v, w)) <= 1)

    def test_a_leaf_behind_a_turn(self):
        for web in SMALL + drawn_webs(40, seed=1303):
            for v, word, w in loose_rows(web):
                if word == "leaf":
                    self.assertIn((v, "tied", w), loose_rows(slow_turned(web, w)))


class Grown(Case):

    def test_how_the_last_knot_stands(self):
        for web in [web for web in SMALL + GREAT if web.knots < 10]:
            for word in WORDS:
                for other in range(web.knots):
                    more = self.told(grown, web, word, other)
                    self.assertEqual(more.knots, web.knots + 1)
                    self.assertEqual(left_out(more, web.knots), web)
                    w = web.knots if word == "alone" else other
                    self.assertTrue(slow_stands(more, list(range(more.knots)), (web.knots, word, w)))

    def test_ten_knots(self):
        for web in (full_web(10), Web(10, ())):
            for word in WORDS:
                self.refused(TooMany, grown, web, word, 9, kept=("limit", 10))
        self.assertEqual(grown(full_web(9), "tied", 3), full_web(10))
        self.refused(InvalidOperation, grown, full_web(10), "twin", 10)
        self.refused_number(InvalidNumber, grown, full_web(10), "alone", 10, at=2)

    def test_refusals(self):
        for value in NO_WEBS:
            self.refused(InvalidWeb, grown, value, "leaf", 0)
            self.refused(InvalidWeb, grown, value, None, None)
        for value in STRAYS + ("Leaf", "leaf ", "twin", ("leaf",), ["leaf"], "turn", "alone\n"):
            self.refused(InvalidOperation, grown, PATH, value, 0)
            self.refused(InvalidOperation, grown, PATH, value, 7)
        for value in STRAYS + (4, -1, True):
            if not is_knot(value, 4):
                for word in WORDS:
                    self.refused_number(InvalidNumber, grown, PATH, word, value, at=2)


class Orders(Case):

    def test_all_forms_of_small_webs(self):
        """Each is an order of just one web [13.3]."""
        for many in (1, 2, 3):
            webs = list(all_webs(many))
            for form in all_forms(many):
                web = self.told(web_of_order, form)
                self.assertEqual(web, slow_web_of(form))
                self.assertTrue(slow_is_order(web, form))
                for other in webs:
                    self.judged(other == web, is_order, other, form)

    def test_all_rows_of_small_webs(self):
        rows = list(product(range(-1, 3), WORDS + ("",), range(-1, 3)))
        for web in all_webs(2):
            for value in product(rows, repeat=2):
                right = all(row[1] and min(row[0], row[2]) >= 0 and max(row[0], row[2]) < 2 for row in value)
                self.judged(right and slow_is_order(web, value), is_order, web, value)
        rows = list(product(range(3), WORDS, range(3)))
        for web in (ROW, full_web(3)):
            for value in product(rows, repeat=3):
                self.judged(slow_is_order(web, value), is_order, web, value)

    def test_all_orders(self):
        for web in SMALL[::3] + [STAR, PATH, Web(4, ())]:
            orders = list(all_orders(web))
            self.assertTrue(orders)
            for order in orders[::5]:
                self.judged(True, is_order, web, order)
                self.assertEqual(web_of_order(order), web)
            self.same(self.told(first_order, web), self.slow_first(web))
            self.assertIn(first_order(web), orders)

    def slow_first(self, web):
        left, order = list(range(web.knots)), ()
        while left:
            rows = slow_rows(web, left)
            if not rows:
                return None
            order += (rows[0],)
            left.remove(rows[0][0])
        return order

    def test_first_orders(self):
        nones = 0
        for web in SMALL + FIVES[::7] + GREAT + [slow_web_of(form) for form in FORMS]:
            order = self.told(first_order, web)
            self.same(order, self.slow_first(web))
            nones += order is None
        self.assertGreater(nones, 10)
        self.same(first_order(Web(1, ())), ((0, "alone", 0),))

    def test_great_forms(self):
        for form in FORMS:
            web = self.told(web_of_order, form)
            self.assertEqual(web, slow_web_of(form))
            self.judged(True, is_order, web, form)
            if web.knots > 1:
                self.judged(False, is_order, Web(web.knots, tuple(sorted(set(web.ties) ^ {(0, 1)}))), form)
            self.judged(False, is_order, web, form[1:])
            self.judged(False, is_order, web, form + form[-1:])
            for value in bent(form):
                self.judged(False, is_order, web, value)
                self.judged(False, is_order_or_five, web, ("order", value))

    def test_any_loose_knot_can_go_first(self):
        """Going on with any never gets stuck [13.4]."""
        draw = random.Random(1304)
        for web in FIVES[::4] + GREAT[::2] + [slow_web_of(form) for form in FORMS[::2]]:
            has_one = first_order(web) is not None
            for _ in range(3):
                order = drawn_order(draw, web)
                self.assertEqual(order is not None, has_one)
                if has_one:
                    self.judged(True, is_order, web, order)
                    self.judged(True, is_order_or_five, web, ("order", order))

    def without(self, order, knot):
        """The order behind the knot left out, by [13.4], knots keeping their names."""
        found, taker = [], None
        for v, word, w in order:
            if taker is None and w == knot and v != knot:
                if word == "leaf":
                    found.append((v, "alone", v))
                else:
                    taker = v
            elif v == knot and taker is None:
                continue
            elif taker is not None:
                new_v, new_w = (taker if k == knot else k for k in (v, w))
                found.append((new_v, word, new_w))
            else:
                found.append((v, word, w))
        return found

    def test_left_out(self):
        for order in FORMS + list(all_forms(3))[::7]:
            for knot in range(len(order) if len(order) > 1 else 0):
                less = tuple((v - (v > knot), word, w - (w > knot)) for v, word, w in self.without(order, knot))
                self.judged(True, is_order, left_out(slow_web_of(order), knot), less)

    def test_turned_webs(self):
        """A turned web has an order EXACTLY IF the web has [13.6]."""
        for web in FIVES[::11] + GREAT + [slow_web_of(form) for form in FORMS[::4]]:
            for knot in range(web.knots):
                self.assertEqual(first_order(slow_turned(web, knot)) is None, first_order(web) is None)

    def test_no_orders(self):
        for value in NO_ORDERS:
            for web in (Web(1, ()), Web(2, ((0, 1),)), ROW, ROUND):
                self.judged(False, is_order, web, value)
            self.refused(InvalidOperation, web_of_order, value)
            self.refused(InvalidOperation, bundles, value)
        for form in FORMS[:12]:
            for value in bent(form, 10 ** 99):
                self.refused(InvalidOperation, web_of_order, value)
        row = ((0, "leaf", 1), (1, "leaf", 2), (2, "leaf", 3), (3, "leaf", 4), (4, "alone", 4))
        self.judged(False, is_order, ROUND, row)

    def test_orders_of_one_row_and_of_ten(self):
        self.assertEqual(web_of_order(((0, "alone", 0),)), Web(1, ()))
        ten = tuple((v, "tied", v + 1) for v in range(9)) + ((9, "alone", 9),)
        self.assertEqual(web_of_order(ten), full_web(10))
        self.same(bundles(ten), tuple(tuple(range(v + 1)) for v in range(10)))
        eleven = tuple((v, "tied", v + 1) for v in range(10)) + ((10, "alone", 10),)
        self.refused(InvalidOperation, web_of_order, eleven)
        self.refused(InvalidOperation, bundles, eleven)
        self.judged(False, is_order, full_web(10), eleven)


class Bundles(Case):

    def slow_bundles(self, order):
        """Each knot, and all from which rows, one behind the other, lead to it."""
        goes = {v: w for v, word, w in order if word != "alone"}
        found = []
        for v, _, _ in order:
            lot = set()
            for k in range(len(order)):
                at = k
                while at != v and at in goes:
                    at = goes[at]
                if at == v:
                    lot.add(k)
            found.append(tuple(sorted(lot)))
        return tuple(found)

    def test_by_definition(self):
        for order in FORMS + list(all_forms(3)):
            told = self.told(bundles, order)
            self.same(told, self.slow_bundles(order))
            for lot in told[::2]:
                self.assertLessEqual(slow_cut_rank(slow_web_of(order), lot), 1)


class EitherOr(Case):

    def asked(self, web):
        """Asks for one of both, and looks at it; its word."""
        word, told = paper = self.told(order_or_five, web)
        self.judged(True, is_order_or_five, web, paper)
        if word == "order":
            self.assertTrue(slow_is_order(web, told))
        else:
            self.assertEqual(word, "five")
            self.assertLessEqual(len(told), 200)
            self.assertTrue(is_round(slow_behind(web, told)))
            self.assertIsNone(first_order(web))
        return word

    def test_all_webs_to_five_knots(self):
        rounds = [Web(5, ties) for ties in slow_kin(ROUND)]
        orders = list(permutations_of_five())
        barred = {renamed(web, order).ties for web in rounds for order in orders}
        for web in SMALL + FIVES:
            word = self.asked(web)
            self.assertEqual(word == "five", web.knots == 5 and web.ties in barred)

    def test_six_knots(self):
        """Just those with an order have no lesser web that is kin to a round of five."""
        rounds = [Web(5, ties) for ties in slow_kin(ROUND)]
        kin_of_rounds = {renamed(web, order).ties for web in rounds for order in permutations_of_five()}
        words = []
        for web in drawn_webs(60, least=6, most=6, seed=1305) + [WHEEL, PRISM, star_web(6), path_web(6)]:
            words.append(self.asked(web))
            lesser = [other.ties for knot in range(6) for other in ways_webs(web, knot)]
            self.assertEqual(words[-1] == "five", any(ties in kin_of_rounds for ties in lesser))
        self.assertGreater(min(words.count("five"), words.count("order")), 3)

    def test_great_webs(self):
        draw = random.Random(1306)
        words = [self.asked(web) for web in GREAT + [drawn_web(draw, 10, 0.5) for _ in range(10)]]
        words += [self.asked(slow_web_of(form)) for form in FORMS]
        self.assertGreater(min(words.count("five"), words.count("order")), 20)
        barred = (beside(ROUND, full_web(5)), beside(PATH, WHEEL), round_web(10), beside(Web(5, ()), turned(ROUND, 1)))
        for web in barred:
            self.assertEqual(self.asked(web), "five")

    def test_never_both(self):
        """The web behind steps has an order, too, so no steps lead to a round of five."""
        draw = random.Random(1307)
        for form in FORMS:
            web = slow_web_of(form)
            for _ in range(3):
                steps = drawn_steps(draw, web.knots, 8)
                self.assertIsNotNone(first_order(web_behind(web, steps)))
                self.judged(False, is_order_or_five, web, ("five", steps))
        for web in GREAT:
            if first_order(web) is None:
                for form in FORMS[::9]:
                    self.judged(False, is_order, web, form)
        self.same(loose_rows(ROUND), ())

    def test_200_steps_and_201(self):
        turns = (("turn", 0),) * 200
        self.judged(True, is_order_or_five, ROUND, ("five", turns))
        self.judged(False, is_order_or_five, ROUND, ("five", turns + (("turn", 0), ("turn", 0))))
        web = beside(ROUND, Web(1, ()))
        self.judged(True, is_order_or_five, web, ("five", (("turn", 5),) * 199 + (("leave", 5),)))
        self.judged(False, is_order_or_five, web, ("five", (("turn", 5),) * 200 + (("leave", 5),)))

    def test_all_short_steps(self):
        web = turned(ROUND, 3)
        steps = [("turn", v) for v in range(5)] + [("leave", 0)]
        for size in range(4):
            for row in product(steps, repeat=size):
                right = is_steps(web, row) and is_round(slow_behind(web, row))
                self.judged(right, is_order_or_five, web, ("five", row))

    def test_wrong_papers(self):
        for web, right in ((ROW, order_or_five(ROW)), (WHEEL, order_or_five(WHEEL)), (ROUND, ("five", ()))):
            self.judged(True, is_order_or_five, web, right)
            wrong = STRAYS + tuple(bent(right)) + NO_ORDERS + tuple(("order", value) for value in NO_ORDERS) + (
                ("order",), ("five",), ("order", ()), right[1], right[::-1], right + (0,), list(right), (right,),
                ("order", right[1]), ("five", right[1]), ("six", right[1]), ("five", (("leave", 0),)),
                ("five", (("turn", 0),)), ("five", [("turn", 0), ("turn", 0)]), ("five", (("leave", 9),)))
            for value in wrong:
                if not among(value, [right]):
                    self.judged(False, is_order_or_five, web, value)
        self.judged(False, is_order_or_five, round_web(6), ("five", ()))
        self.judged(False, is_order_or_five, round_web(4), ("five", ()))
        self.judged(True, is_order_or_five, round_web(6), ("five", (("turn", 2), ("leave", 2))))


def permutations_of_five():
    return [order for order in product(range(5), repeat=5) if len(set(order)) == 5]


class Refusals(Case):

    def test_web(self):
        for value in NO_WEBS:
            for function in (loose_rows, first_order, order_or_five):
                self.refused(InvalidWeb, function, value)
            for function in (is_order, is_order_or_five):
                self.refused(InvalidWeb, function, value, ((0, "alone", 0),))
                self.refused(InvalidWeb, function, value, None)


class NotTrue(Case):
    """[13.8]"""

    def test_each_knot_first(self):
        web = path_web(5)
        self.assertIsNotNone(first_order(web))
        self.assertNotIn(2, [row[0] for row in loose_rows(web)])

    def test_a_loose_knot_and_no_order(self):
        web = beside(ROUND, Web(1, ()))
        self.same([loose_rows(web), first_order(web)], [((5, "alone", 5),), None])

    def test_a_lot_that_is_no_bundle(self):
        order = first_order(STAR)
        missing = [pair for pair in pairs_of(4) if slow_cut_rank(STAR, pair) <= 1 and pair not in bundles(order)]
        self.assertTrue(missing)


if __name__ == "__main__":
    unittest.main()
