"""Stage 22: a bench [22.1] to [22.4]."""

import random
import unittest

from tests.helper import (
    PATH, ROUND, STAR, STRAYS, Case, among, drawn_web, full_web, is_knot, path_web, slow_cut_rank, slow_kin,
    slow_left_out, slow_turned, star_web)
from tests.test_webs import NO_WEBS
from tiedanew.bench import bench as module
from tiedanew.bench.bench import Bench
from tiedanew.errors import (
    InvalidNumber, InvalidOperation, InvalidText, InvalidWeb, NothingToUndo, Refused, TooMany, UnknownName)
from tiedanew.kin.sums import is_kin_or_bar
from tiedanew.web.webs import Web, beside, renamed, swung, turned

LETTERS = "abcdefghijklmnopqrstuvwxyz"
NO_NAMES = STRAYS[:15] + (
    "", "A", "aB", "a1", "a b", "abcdefghi", "a\n", "a_", "\u00e4", "0", ("a",), ["a"], {"a": 1}, b"a", Web(1, ()),
    Bench())
EDITS = ("put", "drop", "turn", "swing", "leave", "rename", "unite")


def bench_with(*rows):
    bench = Bench()
    for name, web in rows:
        bench.put(name, web)
    return bench


def state(bench):
    """All that can be seen of a bench without changing it."""
    names = bench.names
    webs = [(name, bench.web_of(name).knots, bench.web_of(name).ties) for name in names]
    return webs, str(bench), len(bench), [bench.known(one, other) for one in names for other in names]


class Slow:
    """A plain list of all places, each with what was put, and with what was told."""

    def __init__(self):
        self.places, self.at = [({}, {})], 0

    def go_on(self, change):
        webs, answers = dict(self.places[self.at][0]), dict(self.places[self.at][1])
        change(webs, answers)
        self.places[self.at + 1:] = [(webs, answers)]
        self.at += 1

    @property
    def webs(self):
        return self.places[self.at][0]

    @property
    def answers(self):
        return self.places[self.at][1]

    def known(self, one, other):
        webs, answer = self.webs, self.answers.get((one, other))
        if answer is None or webs[one].knots != webs[other].knots:
            return None
        return answer if slow_is_right(webs[one], webs[other], answer) else None


def slow_is_right(one, other, answer):
    """Whether a kept answer is right for two webs of equally many knots."""
    if answer[0] == "turns":
        for knot in answer[1]:
            one = slow_turned(one, knot)
        return one == other
    if answer[0] == "cut":
        return slow_cut_rank(one, answer[1]) != slow_cut_rank(other, answer[1])
    return is_kin_or_bar(one, other, answer)


class BenchCase(Case):

    def unchanged(self, error, bench, method, *arguments, kept=()):
        """The call raises just this error, and nothing that can be seen of the bench changes."""
        before = state(bench)
        call = getattr(bench, method)

        def called(*values):
            return call(*values)
        called.__name__ = method
        self.refused(error, called, *arguments, kept=kept)
        self.assertEqual(state(bench), before)


class Examples(BenchCase):

    def test_all(self):
        bench = Bench()
        bench.put("one", Web(4, ((0, 1), (0, 2), (0, 3))))
        bench.put("two", turned(bench.web_of("one"), 0))
        self.same([bench.ask("one", "two")[0], bench.known("two", "one"), str(
            bench), bench.names, "one" in bench, len(bench)], [
            "turns", None, "bench of 2 webs, 2 edits", ("one", "two"), True, 2])
        bench.turn("one", 1)
        self.same([bench.known("one", "two") is None, bench.web_of("one").ties], [False, ((0, 1), (0, 2), (0, 3))])
        bench.turn("two", 0)
        self.same([bench.known("one", "two"), bench.web_of("one") == bench.web_of("two"), bench.ask(
            "one", "two")[0]], [None, True, "turns"])
        bench.leave("two", 3)
        self.assertIs(bench.known("one", "two"), None)
        bench.undo()
        self.assertIsNot(bench.known("one", "two"), None)
        self.unchanged(UnknownName, bench, "web_of", "three", kept=("wanted", "three"))

    def test_constants(self):
        self.same([module.MOST_WEBS, module.MOST_NAME], [12, 8])


class TheClass(BenchCase):

    def test_a_new_one(self):
        bench = Bench()
        self.same([bench.names, len(bench), str(bench), "a" in bench], [(), 0, "bench of 0 webs, 0 edits", False])
        for method in ("undo", "redo"):
            self.unchanged(NothingToUndo, bench, method, kept=("done", 1 if method == "undo" else -1))
        self.assertEqual(bench, Bench())

    def test_str(self):
        bench = bench_with(("a", PATH))
        self.same(str(bench), "bench of 1 webs, 1 edits")
        bench.put("b", STAR)
        self.same(str(bench), "bench of 2 webs, 2 edits")
        bench.undo()
        self.same(str(bench), "bench of 1 webs, 1 edits")
        bench.undo()
        self.same(str(bench), "bench of 0 webs, 0 edits")
        bench.redo()
        self.same(str(bench), "bench of 1 webs, 1 edits")
        bench.turn("a", 0)
        bench.drop("a")
        self.same(str(bench), "bench of 0 webs, 3 edits")

    def test_names_and_in(self):
        bench = bench_with(("b", PATH), ("ab", STAR), ("a", PATH), ("zzzzzzzz", ROUND))
        self.same([bench.names, len(bench)], [("a", "ab", "b", "zzzzzzzz"), 4])
        for value in STRAYS + NO_NAMES + ("c", "zzzzzzz", ("a",), ["a"], 10 ** 5000):
            self.assertIs(value in bench, False)
            self.assertIs(value not in bench, True)
        for name in ("a", "ab", "b", "zzzzzzzz"):
            self.assertIs(name in bench, True)

    def test_equal(self):
        one, other = bench_with(("a", PATH), ("b", STAR)), bench_with(("b", STAR), ("a", PATH))
        self.assertIs(one == other, True)
        self.assertIs(one != other, False)
        other.turn("a", 1)
        self.assertIs(one == other, False)
        other.turn("a", 1)
        other.ask("a", "b")
        self.assertIs(one == other, True)
        for different in (bench_with(("a", PATH)), bench_with(("a", PATH), ("c", STAR)), bench_with(
                ("a", STAR), ("b", PATH)), Bench()):
            self.assertIs(one == different, False)
            self.assertIs(one != different, True)
        for value in STRAYS + ({"a": PATH, "b": STAR}, "bench", 10 ** 5000):
            self.assertIs(one == value, False)
            self.assertIs(one != value, True)

    def test_it_is_not_iterated_over(self):
        for iterate in (iter, list, tuple, set, sorted):
            with self.assertRaises(TypeError):
                iterate(bench_with(("a", PATH)))

    def test_no_state_is_shared(self):
        one, other = Bench(), Bench()
        one.put("a", PATH)
        self.same([other.names, str(other)], [(), "bench of 0 webs, 0 edits"])
        with self.assertRaises(AttributeError):
            one.names = ()

    def test_edits_return_nothing(self):
        bench = Bench()
        self.assertIsNone(bench.put("a", PATH))
        self.assertIsNone(bench.turn("a", 1))
        self.assertIsNone(bench.swing("a", 0, 1))
        self.assertIsNone(bench.leave("a", 0))
        self.assertIsNone(bench.rename("a", (1, 0, 2)))
        self.assertIsNone(bench.unite("b", "a", "a"))
        self.assertIsNone(bench.drop("a"))
        self.assertIsNone(bench.undo())
        self.assertIsNone(bench.redo())
        self.same(str(bench), "bench of 1 webs, 7 edits")


class Edits(BenchCase):

    def test_webs(self):
        bench = bench_with(("a", PATH), ("b", ROUND))
        bench.turn("a", 1)
        self.assertEqual(bench.web_of("a"), turned(PATH, 1))
        bench.swing("b", 1, 2)
        self.assertEqual(bench.web_of("b"), swung(ROUND, 1, 2))
        bench.leave("b", 3)
        self.assertEqual(bench.web_of("b"), slow_left_out(swung(ROUND, 1, 2), 3))
        bench.rename("a", (3, 1, 0, 2))
        self.assertEqual(bench.web_of("a"), renamed(turned(PATH, 1), (3, 1, 0, 2)))
        bench.unite("c", "b", "a")
        self.assertEqual(bench.web_of("c"), beside(bench.web_of("b"), bench.web_of("a")))
        bench.unite("a", "a", "a")
        self.assertEqual(bench.web_of("a").knots, 8)
        bench.put("b", STAR)
        self.assertEqual(bench.web_of("b"), STAR)
        bench.drop("c")
        self.same(bench.names, ("a", "b"))
        self.unchanged(UnknownName, bench, "web_of", "c", kept=("wanted", "c"))

    def test_twelve_and_a_thirteenth(self):
        bench = bench_with(*[(LETTERS[k], PATH) for k in range(12)])
        self.same(len(bench), 12)
        self.unchanged(TooMany, bench, "put", "m", STAR, kept=("limit", 12))
        self.unchanged(TooMany, bench, "unite", "m", "a", "b", kept=("limit", 12))
        bench.put("a", STAR)
        bench.unite("b", "a", "l")
        self.assertEqual(bench.web_of("b"), beside(STAR, PATH))
        bench.drop("c")
        bench.put("m", STAR)
        self.same(len(bench), 12)

    def test_ten_knots_and_eleven(self):
        bench = bench_with(("a", Web(5, ())), ("b", Web(6, ())), ("c", full_web(10)))
        bench.unite("d", "a", "a")
        self.assertEqual(bench.web_of("d"), Web(10, ()))
        for one, other in (("a", "b"), ("b", "a"), ("c", "c"), ("b", "b")):
            self.unchanged(TooMany, bench, "unite", "e", one, other, kept=("limit", 10))
        for k in range(8):
            bench.put(LETTERS[10 + k], PATH)
        # More knots come ahead of more webs.
        self.unchanged(TooMany, bench, "unite", "e", "a", "b", kept=("limit", 10))
        self.unchanged(TooMany, bench, "unite", "e", "a", "a", kept=("limit", 12))

    def test_an_edit_that_changes_no_web(self):
        bench = bench_with(("a", path_web(2)))
        bench.turn("a", 0)
        bench.rename("a", (0, 1))
        bench.put("a", path_web(2))
        self.same([str(bench), bench.web_of("a") == path_web(2)], ["bench of 1 webs, 4 edits", True])

    def test_undo_and_redo(self):
        bench = bench_with(("a", PATH))
        bench.turn("a", 1)
        bench.turn("a", 2)
        found = [bench.web_of("a")]
        for _ in range(2):
            bench.undo()
            found.append(bench.web_of("a"))
        self.assertEqual(found, [turned(turned(PATH, 1), 2), turned(PATH, 1), PATH])
        bench.redo()
        self.assertEqual(bench.web_of("a"), turned(PATH, 1))
        # An edit ends what could be redone; a call that raises does not.
        self.unchanged(Refused, bench, "swing", "a", 0, 3, kept=("reason", ("untied",)))
        bench.redo()
        bench.undo()
        bench.leave("a", 0)
        self.unchanged(NothingToUndo, bench, "redo", kept=("done", -1))
        self.same(str(bench), "bench of 1 webs, 3 edits")
        for _ in range(3):
            bench.undo()
        self.unchanged(NothingToUndo, bench, "undo", kept=("done", 1))
        self.same(bench.names, ())


class Answers(BenchCase):
    """[22.2], [22.3]"""

    def test_kept_for_the_names_in_this_sequence(self):
        bench = bench_with(("a", PATH), ("b", turned(PATH, 2)), ("c", PATH))
        self.assertIs(bench.known("a", "b"), None)
        answer = bench.ask("a", "b")
        self.same(answer[0], "turns")
        self.same(bench.known("a", "b"), answer)
        for one, other in (("b", "a"), ("c", "b"), ("a", "c"), ("a", "a")):
            self.assertIs(bench.known(one, other), None)
        self.same(bench.ask("a", "a"), bench.known("a", "a"))

    def test_an_answer_that_is_right_is_told_again(self):
        """Also if another one would be told anew."""
        bench = bench_with(("a", path_web(2)), ("b", path_web(2)))
        bench.put("a", STAR)
        bench.put("b", turned(STAR, 0))
        first = bench.ask("a", "b")
        # Leaves can be turned about: other webs, for which the same turns are right, but other ones may be told.
        for web in (STAR, full_web(4), PATH, star_web(4)):
            for knot in range(4):
                bench.put("a", turned(web, knot))
                behind = bench.web_of("a")
                for turn in first[1]:
                    behind = turned(behind, turn)
                bench.put("b", behind)
                self.same(bench.known("a", "b"), first)
                self.same(bench.ask("a", "b"), first)

    def test_lost_and_found_again(self):
        bench = bench_with(("a", PATH), ("b", turned(PATH, 1)))
        answer = bench.ask("a", "b")
        bench.put("b", STAR)
        self.assertIs(bench.known("a", "b"), None)
        bench.put("b", turned(PATH, 1))
        self.same(bench.known("a", "b"), answer)

    def test_a_new_one_takes_the_place(self):
        bench = bench_with(("a", PATH), ("b", turned(PATH, 1)))
        old = bench.ask("a", "b")
        bench.put("b", STAR)
        new = bench.ask("a", "b")
        self.assertNotEqual(new[0], "turns")
        self.assertTrue(slow_is_right(PATH, STAR, new))
        bench.put("b", turned(PATH, 1))
        self.assertIs(bench.known("a", "b"), None)
        self.same(bench.ask("a", "b")[0], old[0])

    def test_at_the_place_where_they_were_told(self):
        bench = bench_with(("a", PATH), ("b", turned(PATH, 1)))
        bench.turn("a", 0)
        bench.undo()
        answer = bench.ask("a", "b")
        bench.redo()
        self.assertIs(bench.known("a", "b"), None)
        # At the place behind it was not told, though it would be right: a leaf was turned.
        self.assertEqual(bench.web_of("a"), PATH)
        bench.undo()
        self.same(bench.known("a", "b"), answer)
        bench.undo()
        bench.redo()
        self.same(bench.known("a", "b"), answer)
        self.same(str(bench), "bench of 2 webs, 2 edits")

    def test_asking_is_no_edit(self):
        bench = bench_with(("a", PATH), ("b", STAR))
        bench.undo()
        bench.ask("a", "a")
        bench.redo()
        self.same([str(bench), bench.names], ["bench of 2 webs, 2 edits", ("a", "b")])
        self.assertIs(bench.known("a", "a"), None)
        bench.undo()
        self.assertIsNot(bench.known("a", "a"), None)

    def test_they_go_on_with_edits(self):
        bench = bench_with(("a", PATH), ("b", PATH), ("c", STAR))
        answers = {pair: bench.ask(*pair) for pair in (("a", "b"), ("b", "c"), ("c", "a"))}
        bench.put("d", ROUND)
        bench.leave("d", 1)
        bench.unite("e", "a", "b")
        bench.drop("d")
        for pair, answer in answers.items():
            self.same(bench.known(*pair), answer)

    def test_dropped_names(self):
        bench = bench_with(("a", PATH), ("b", PATH), ("c", PATH))
        for one in "abc":
            for other in "abc":
                bench.ask(one, other)
        bench.drop("b")
        bench.put("b", PATH)
        for one in "abc":
            for other in "abc":
                self.assertIs(bench.known(one, other) is None, "b" in (one, other))
        bench.undo()
        bench.undo()
        self.assertIsNot(bench.known("b", "a"), None)

    def test_put_under_a_name_that_has_a_web(self):
        """Answers stay."""
        bench = bench_with(("a", PATH), ("b", PATH))
        answer = bench.ask("a", "b")
        bench.put("a", STAR)
        bench.put("b", STAR)
        self.assertEqual(slow_is_right(STAR, STAR, answer), True)
        self.same(bench.known("a", "b"), answer)
        bench.unite("a", "a", "b")
        self.assertIs(bench.known("a", "b"), None)
        bench.unite("b", "b", "b")
        self.same(bench.known("a", "b"), answer)

    def test_unlike_numbers_of_knots(self):
        bench = bench_with(("a", PATH), ("b", turned(PATH, 1)))
        answer = bench.ask("a", "b")
        bench.leave("b", 0)
        self.assertIs(bench.known("a", "b"), None)
        self.unchanged(InvalidOperation, bench, "ask", "a", "b")
        bench.undo()
        self.same(bench.known("a", "b"), answer)

    def test_a_cut_lasts(self):
        """As long as its webs are turned and swung alone [22.3]."""
        draw = random.Random(2201)
        bench = bench_with(("a", Web(4, ((0, 1), (2, 3)))), ("b", PATH))
        cut = bench.ask("a", "b")
        self.same(cut[0], "cut")
        for _ in range(30):
            name = draw.choice("ab")
            ties = bench.web_of(name).ties
            if draw.random() < 0.5:
                bench.turn(name, draw.randrange(4))
            else:
                bench.swing(name, *draw.choice(ties))
            self.same(bench.known("a", "b"), cut)
            self.same(bench.ask("a", "b"), cut)

    def test_kin_webs_stay_kin(self):
        """Under turns and swings of either [22.3]; what is told is right each time."""
        draw = random.Random(2203)
        for web in (PATH, ROUND, full_web(5), Web(5, ((0, 1), (0, 2), (3, 4)))):
            bench = bench_with(("a", web), ("b", turned(web, 2)))
            for _ in range(15):
                name = draw.choice("ab")
                if draw.random() < 0.5:
                    bench.turn(name, draw.randrange(web.knots))
                else:
                    bench.swing(name, *draw.choice(bench.web_of(name).ties))
                answer = bench.ask("a", "b")
                self.same(answer[0], "turns")
                self.assertTrue(slow_is_right(bench.web_of("a"), bench.web_of("b"), answer))

    def test_turns_told_anew(self):
        """Behind the same turn of both webs: turns back, the row, the turn."""
        draw = random.Random(2202)
        for _ in range(20):
            web = drawn_web(draw, 5)
            other = turned(turned(web, draw.randrange(5)), draw.randrange(5))
            row, knot = bench_with(("a", web), ("b", other)).ask("a", "b")[1], draw.randrange(5)
            bench = bench_with(("a", turned(web, knot)), ("b", turned(other, knot)))
            told = bench.ask("a", "b")
            self.same(told[0], "turns")
            self.assertTrue(slow_is_right(bench.web_of("a"), bench.web_of("b"), ("turns", (knot,) + row + (knot,))))

    def test_left_knots(self):
        """Knots left out can make kin webs strange, and strange ones alike."""
        bench = bench_with(("a", PATH), ("b", turned(PATH, 1)))
        self.same(bench.ask("a", "b")[0], "turns")
        bench.leave("a", 1)
        bench.leave("b", 1)
        self.assertNotEqual(bench.ask("a", "b")[0], "turns")
        bench = bench_with(("a", Web(2, ())), ("b", path_web(2)))
        self.assertNotEqual(bench.ask("a", "b")[0], "turns")
        bench.leave("a", 0)
        bench.leave("b", 0)
        self.same(bench.ask("a", "b")[0], "turns")


class AgainstAPlainList(BenchCase):

    def drawn_edit(self, draw, bench, slow):
        """One edit of both, or an error that changes nothing."""
        name, other = draw.choice("abcd"), draw.choice("abcd")
        edit = draw.choice(EDITS)
        web = slow.webs.get(name)
        if edit == "put":
            web = drawn_web(draw, draw.choice((2, 3, 3, 4)))
            bench.put(name, web)
            slow.go_on(lambda webs, answers: webs.update({name: web}))
        elif web is None:
            self.unchanged(UnknownName, bench, edit, *((name, 0, 1) if edit in ("swing",) else (name,) if (
                edit == "drop") else ("e", name, other) if edit == "unite" else (name, ())), kept=("wanted", name))
        elif edit == "drop":
            bench.drop(name)
            slow.go_on(lambda webs, answers: (webs.pop(name), [
                answers.pop(pair) for pair in list(answers) if name in pair]))
        elif edit == "turn":
            knot = draw.randrange(web.knots)
            bench.turn(name, knot)
            slow.go_on(lambda webs, answers: webs.update({name: slow_turned(web, knot)}))
        elif edit == "swing" and web.ties:
            one, two = draw.choice(web.ties)
            bench.swing(name, one, two)
            slow.go_on(lambda webs, answers: webs.update({name: slow_turned(slow_turned(slow_turned(web, one), two),
            one)}))
        elif edit == "leave" and web.knots > 1:
            knot = draw.randrange(web.knots)
            bench.leave(name, knot)
            slow.go_on(lambda webs, answers: webs.update({name: slow_left_out(web, knot)}))
        elif edit == "rename":
            order = tuple(draw.sample(range(web.knots), web.knots))
            bench.rename(name, order)
            slow.go_on(lambda webs, answers: webs.update({name: renamed(web, order)}))
        elif edit == "unite" and other in slow.webs and web.knots + slow.webs[other].knots <= 6:
            new, both = draw.choice("abcd"), beside(web, slow.webs[other])
            bench.unite(new, name, other)
            slow.go_on(lambda webs, answers: webs.update({new: both}))

    def drawn_question(self, draw, bench, slow):
        name, other = draw.choice("abcd"), draw.choice("abcd")
        if name not in slow.webs or other not in slow.webs:
            return
        if slow.webs[name].knots != slow.webs[other].knots:
            self.unchanged(InvalidOperation, bench, "ask", name, other)
            return
        known, answer = slow.known(name, other), bench.ask(name, other)
        self.assertTrue(slow_is_right(slow.webs[name], slow.webs[other], answer))
        self.assertEqual(answer[0] == "turns", slow.webs[other].ties in slow_kin(slow.webs[name]))
        if known is not None:
            self.same(answer, known)
        slow.answers[(name, other)] = answer

    def alike(self, bench, slow):
        self.same(bench.names, tuple(sorted(slow.webs)))
        self.same([len(bench), str(bench)], [len(slow.webs), f"bench of {len(slow.webs)} webs, {slow.at} edits"])
        for name, web in slow.webs.items():
            self.assertEqual(bench.web_of(name), web)
            for other in slow.webs:
                self.same(bench.known(name, other), slow.known(name, other))

    def test_with_undo_and_redo(self):
        for seed in range(12):
            draw, bench, slow = random.Random(2210 + seed), Bench(), Slow()
            for _ in range(90):
                what = draw.random()
                if what < 0.45:
                    self.drawn_edit(draw, bench, slow)
                elif what < 0.7:
                    self.drawn_question(draw, bench, slow)
                elif what < 0.88:
                    if slow.at:
                        bench.undo()
                        slow.at -= 1
                    else:
                        self.unchanged(NothingToUndo, bench, "undo", kept=("done", 1))
                elif slow.at + 1 < len(slow.places):
                    bench.redo()
                    slow.at += 1
                else:
                    self.unchanged(NothingToUndo, bench, "redo", kept=("done", -1))
                self.alike(bench, slow)


class Refusals(BenchCase):

    def setUp(self):
        self.bench = bench_with(("a", PATH), ("b", Web(1, ())), ("c", ROUND))
        self.bench.ask("a", "a")
        self.bench.turn("c", 0)
        self.bench.undo()

    def tearDown(self):
        # What could be redone is there still: nothing that raises is an edit.
        self.bench.redo()
        self.assertEqual(self.bench.web_of("c"), turned(ROUND, 0))

    def test_new_names(self):
        for value in NO_NAMES:
            self.unchanged(InvalidText, self.bench, "put", value, PATH)
            self.unchanged(InvalidText, self.bench, "put", value, None)
            self.unchanged(InvalidText, self.bench, "unite", value, "a", "a")
            self.unchanged(InvalidText, self.bench, "unite", value, "x", "y")
        for name in ("abcdefgh", "z", "aa"):
            self.unchanged(InvalidWeb, self.bench, "put", name, None)

    def test_unknown_names(self):
        for value in STRAYS + NO_NAMES + ("x", "A", "aa", 10 ** 99):
            for edit, rest in (("drop", ()), ("turn", (0,)), ("swing", (0, 1)), ("leave", (0,)), (
                    "rename", ((0, 1, 2, 3),)), ("web_of", ()), ("ask", ("a",)), ("known", ("a",)), ("turn", (None,)), (
                    "swing", (9, None)), ("rename", (None,)), ("ask", ("x",)), ("known", (None,))):
                self.unchanged(UnknownName, self.bench, edit, value, *rest, kept=("wanted", value))
            for edit in ("ask", "known"):
                self.unchanged(UnknownName, self.bench, edit, "a", value, kept=("wanted", value))
            self.unchanged(UnknownName, self.bench, "unite", "new", value, "y", kept=("wanted", value))
            self.unchanged(UnknownName, self.bench, "unite", "new", "a", value, kept=("wanted", value))

    def test_webs(self):
        for value in NO_WEBS:
            self.unchanged(InvalidWeb, self.bench, "put", "a", value)
            self.unchanged(InvalidWeb, self.bench, "put", "new", value)

    def test_knots(self):
        for value in STRAYS + (4, -1):
            if not is_knot(value, 4):
                kept = ("given", value)
                self.unchanged(InvalidNumber, self.bench, "turn", "a", value, kept=kept)
                self.unchanged(InvalidNumber, self.bench, "leave", "a", value, kept=kept)
                self.unchanged(InvalidNumber, self.bench, "swing", "a", value, 1, kept=kept)
                self.unchanged(InvalidNumber, self.bench, "swing", "a", 1, value, kept=kept)
                self.unchanged(InvalidNumber, self.bench, "swing", "a", value, None, kept=kept)
        self.unchanged(InvalidOperation, self.bench, "swing", "a", 2, 2)
        self.unchanged(InvalidOperation, self.bench, "swing", "b", 0, 0)
        for one, two in ((0, 2), (3, 0)):
            self.unchanged(Refused, self.bench, "swing", "a", one, two, kept=("reason", ("untied",)))
        self.unchanged(Refused, self.bench, "leave", "b", 0, kept=("reason", ("last",)))

    def test_orders(self):
        for value in STRAYS + ((0, 1, 2), (0, 1, 2, 2), [0, 1, 2, 3], (0, 1, 2, True), "0123", (0, 1, 2, 4)):
            if not among(value, [(0, 1, 2, 3)]):
                self.unchanged(InvalidOperation, self.bench, "rename", "a", value)

    def test_unlike_numbers_of_knots(self):
        for one, other in (("a", "b"), ("c", "a"), ("b", "c")):
            self.unchanged(InvalidOperation, self.bench, "ask", one, other)
            self.assertIs(self.bench.known(one, other), None)

    def test_nothing_more_to_redo(self):
        self.bench.redo()
        self.unchanged(NothingToUndo, self.bench, "redo", kept=("done", -1))
        self.bench.undo()


class NotTrue(BenchCase):
    """[22.4]"""

    def test_an_edit_and_answers(self):
        bench = bench_with(("a", PATH), ("b", turned(PATH, 2)))
        answer = bench.ask("a", "b")
        bench.turn("a", 0)
        self.same(bench.known("a", "b"), answer)

    def test_one_and_another(self):
        bench = bench_with(("a", PATH), ("b", PATH))
        bench.ask("a", "b")
        self.assertIs(bench.known("b", "a"), None)

    def test_another_web_under_a_name(self):
        bench = bench_with(("a", PATH), ("b", PATH))
        answer = bench.ask("a", "b")
        bench.put("b", STAR)
        bench.put("a", STAR)
        self.same(bench.known("a", "b"), answer)


if __name__ == "__main__":
    unittest.main()
