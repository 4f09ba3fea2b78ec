"""Stage 21: texts [21.1] to [21.5]."""

import random
import re
import unittest

from tests.helper import (
    PATH, ROUND, STRAYS, WHEEL, Case, all_webs, among, bent, drawn_webs, edge_webs, full_web, webs_up_to)
from tests.test_lots import LINE, NO_FULL, SMALL as SMALL_LOTS, THREES, drawn_lots, slow_is_full, slow_lot
from tests.test_marks import NO_MARKS, all_marks, drawn_marks
from tests.test_nets import LOOPS, NO_NETS, ONE, TWO, UNLED, are_lines, drawn_nets
from tests.test_rings import FIVER, LONG, WRONG_RINGS, all_rings, drawn_rings
from tests.test_webs import NO_WEBS
from tiedanew.errors import (
    InvalidMarks, InvalidRing, InvalidSteps, InvalidString, InvalidText, InvalidWeb, ParseError)
from tiedanew.ring.rings import is_ring
from tiedanew.text import texts
from tiedanew.text.texts import (
    marks_text, net_text, read_marks, read_net, read_ring, read_steps, read_strings, read_web, ring_text, steps_text,
    strings_text, web_text)
from tiedanew.tour.nets import Net, net_of
from tiedanew.web.webs import Web

READERS = (read_web, read_ring, read_marks, read_steps, read_strings, read_net)
NUMBER = "(0|[1-9][0-9]*)"
NO_TEXTS = tuple(value for value in STRAYS if not isinstance(value, str)) + (
    "\t", "knots 3\t\n", "knots 3\r\n", "knots\u00a03\n", "\x00", "knots 3\n\x7f", "\u00e9", b"knots 3\n",
    ["knots 3\n"],
    ("knots 3\n",), {"knots 3\n": 1}, "\x1f\n", "ring 0 0\x0b", "x" * 20001, "knots 3\n" * 2501, "\n" * 20001)


def drawn_steps_of_ten(draw, size):
    return tuple((draw.choice(("turn", "leave")), draw.randrange(10)) for _ in range(size))


def words_of(line, word, many=None):
    """The numbers of a line of this word, None if it is not of this form."""
    if not re.fullmatch(word + (f" {NUMBER}" * many if many else f"( {NUMBER})+"), line):
        return None
    words = line.split()[1:]
    return tuple(int(number) if len(number) < 9 else 10 ** 9 for number in words)


def web_line(lines, line):
    if not lines:
        told = words_of(line, "knots", 1)
        return told is not None and 1 <= told[0] <= 10
    tie, knots = words_of(line, "tie", 2), int(lines[0].split()[1])
    if tie is None or not tie[0] < tie[1] < knots:
        return False
    return len(lines) == 1 or tie > words_of(lines[-1], "tie", 2)


def ring_line(lines, line):
    return not lines and words_of(line, "ring") is not None and is_ring(words_of(line, "ring"))


def marks_line(lines, line):
    bits = words_of(line, "marks")
    if bits is None or not set(bits) <= {0, 1} or len(bits) > 10 or len(lines) >= len(bits) or bits[len(lines)]:
        return False
    return not lines or len(bits) == len(words_of(lines[0], "marks"))


def steps_line(lines, line):
    return re.fullmatch("(turn|leave) [0-9]", line) is not None and len(lines) < 200


def strings_line(lines, line):
    if not re.fullmatch("string [IXYZ]{1,10}", line) or len(line) - 7 == len(lines):
        return False
    return not lines or len(line) == len(lines[0])


def net_line(lines, line):
    if not lines:
        told = words_of(line, "net", 1)
        return told is not None and 1 <= told[0] <= 10
    knots, ends = int(lines[0].split()[1]), words_of(line, "line", 2)
    if ends is None or max(ends) >= knots:
        return False
    ends = sum((words_of(each, "line", 2) for each in lines[1:] + [line]), ())
    return all(ends.count(knot) <= 4 for knot in range(knots))


def whole_strings(lines):
    strings = tuple(line[7:] for line in lines)
    return bool(lines) and len(lines) == len(strings[0]) and slow_is_full(strings)


def whole_net(lines):
    return bool(lines) and are_lines(tuple(words_of(line, "line", 2) for line in lines[1:]), int(lines[0].split()[1]))


RULES = {
    read_web: (web_line, bool), read_ring: (ring_line, bool), read_steps: (steps_line, lambda lines: True),
    read_marks: (marks_line, lambda lines: bool(lines) and len(lines) == len(words_of(lines[0], "marks"))),
    read_strings: (strings_line, whole_strings), read_net: (net_line, whole_net)}


def first_wrong(read, text):
    """The index of the first wrong line, the number of lines if the whole is wrong, None if all is right [21.4]."""
    is_right, is_whole = RULES[read]
    lines = text.split("\n")
    unfinished = lines.pop()
    for index, line in enumerate(lines):
        if not is_right(lines[:index], line):
            return index
    if unfinished:
        return len(lines)
    return None if is_whole(lines) else len(lines)


def right_texts():
    """Texts of all forms, with their readers."""
    draw = random.Random(2101)
    found = [(read_web, web_text(web)) for web in drawn_webs(12, least=1, seed=2102) + [ROUND, WHEEL, Web(1, ())]]
    found += [(read_ring, ring_text(ring)) for ring in drawn_rings(8, seed=2103) + [FIVER]]
    found += [(read_marks, marks_text(drawn_marks(draw, many))) for many in (1, 2, 3, 4, 10)]
    found += [(read_steps, steps_text(drawn_steps_of_ten(draw, size))) for size in (0, 1, 2, 5, 199, 200)]
    found += [(read_strings, strings_text(full)) for full in drawn_lots(8, seed=2104) + [LINE, ("Y",)]]
    found += [(read_net, net_text(net)) for net in drawn_nets(8, seed=2105) + [ONE, TWO, LOOPS, UNLED]]
    return found


def bent_text(draw, text):
    """The text with one small change."""
    signs = " \n0123456789IXYZkntieragmsulvop" + text[:40]
    at, lines = draw.randrange(len(text) + 1), text.split("\n")
    line = draw.randrange(len(lines))
    return draw.choice((
        text[:at] + draw.choice(signs) + text[at:], text[:at] + text[at + 1:],
        text[:at] + draw.choice(signs) + text[at + 1:],
        "\n".join(lines[:line] + lines[line + 1:]), "\n".join(lines[:line] + [draw.choice(lines)] + lines[line:]),
        "\n".join(draw.sample(lines[:-1], len(lines) - 1) + [""]), text[:at], text + draw.choice(lines) + "\n",
        text[:-1], text + "\n", text + text))


class Examples(Case):

    def test_texts(self):
        self.same([web_text(Web(3, ((0, 2),))), ring_text((0, 1, 0, 1)), marks_text(((0, 1), (0, 0))), steps_text(
            (("turn", 2), ("leave", 0)))], [
            "knots 3\ntie 0 2\n", "ring 0 1 0 1\n", "marks 0 1\nmarks 0 0\n", "turn 2\nleave 0\n"])
        self.same(net_text(net_of((0, 0))), "net 1\nline 0 0\nline 0 0\n")

    def test_read(self):
        self.same([read_web("knots 2\n") == Web(2, ()), read_steps(""), read_marks("marks 0\n"), read_net(
            "net 1\nline 0 0\nline 0 0\n").is_led], [True, (), ((0,),), True])

    def test_errors(self):
        self.refused(ParseError, read_web, "knots 3\ntie 1 2\ntie 0 2\n", kept=("spot", 2))
        self.refused(ParseError, read_marks, "marks 0 1\n", kept=("spot", 1))
        self.refused(ParseError, read_ring, "ring 0 1 0 1", kept=("spot", 0))

    def test_constants(self):
        self.same([texts.MOST_TEXT, texts.MOST_STEPS], [20000, 200])


class ThereAndBack(Case):
    """[21.3]"""

    def back(self, write, read, value, text):
        self.same(self.told(write, value), text)
        found = self.told(read, text)
        self.assertEqual(found, value)
        self.assertIs(type(found), type(value))
        self.assertIsNone(first_wrong(read, text))

    def test_webs(self):
        for web in list(webs_up_to(4)) + list(all_webs(5))[::13] + drawn_webs(30, seed=2106) + edge_webs():
            text = f"knots {web.knots}\n" + "".join(f"tie {v} {w}\n" for v, w in web.ties)
            self.back(web_text, read_web, web, text)

    def test_rings(self):
        for ring in [ring for many in (1, 2, 3) for ring in all_rings(many)] + drawn_rings(40, seed=2107) + [FIVER,
                LONG]:
            self.back(ring_text, read_ring, ring, "ring " + " ".join(map(str, ring)) + "\n")

    def test_marks(self):
        draw = random.Random(2108)
        for marks in [marks for many in (1, 2, 3) for marks in all_marks(many)] + [
                drawn_marks(draw, many) for many in (4, 7, 10)]:
            text = "".join("marks " + " ".join(map(str, row)) + "\n" for row in marks)
            self.back(marks_text, read_marks, marks, text)

    def test_steps(self):
        draw = random.Random(2109)
        for size in (0, 1, 2, 3, 50, 199, 200):
            steps = drawn_steps_of_ten(draw, size)
            self.back(steps_text, read_steps, steps, "".join(f"{word} {knot}\n" for word, knot in steps))
        # They are those of some web or not.
        self.back(steps_text, read_steps, (("leave", 9),) * 200, "leave 9\n" * 200)

    def test_strings(self):
        for full in SMALL_LOTS + THREES[::7] + drawn_lots(30, seed=2110) + [slow_lot(full_web(10))]:
            self.back(strings_text, read_strings, full, "".join(f"string {string}\n" for string in full))

    def test_nets(self):
        for net in drawn_nets(60, seed=2111) + [ONE, TWO, LOOPS, UNLED, net_of(LONG)]:
            text = f"net {net.knots}\n" + "".join(f"line {v} {w}\n" for v, w in net.lines)
            self.back(net_text, read_net, net, text)

    def test_just_one_text(self):
        found = [web_text(web) for web in webs_up_to(4)]
        self.assertEqual(len(set(found)), len(found))


class FirstWrongLine(Case):
    """[21.4]"""

    def asked(self, read, text):
        """Whether the text is read; else it is refused by its first wrong line."""
        wrong = first_wrong(read, text)
        if wrong is None:
            read(text)
        else:
            self.refused(ParseError, read, text, kept=("spot", wrong))
        return wrong is None

    def test_small_changes(self):
        draw, found = random.Random(2112), []
        for read, text in right_texts():
            self.assertTrue(self.asked(read, text))
            for _ in range(150):
                other = bent_text(draw, text)
                found.append(self.asked(read, other))
                found.append(self.asked(read, bent_text(draw, other)))
        self.assertGreater(min(found.count(True), found.count(False)), 200)

    def test_texts_of_other_forms(self):
        for read, text in right_texts():
            for other in READERS:
                if text:
                    self.assertEqual(self.asked(other, text), other is read)

    def wrong(self, read, *rows):
        for text, index in rows:
            self.assertEqual(first_wrong(read, text), index, text)
            self.refused(ParseError, read, text, kept=("spot", index))

    def test_webs(self):
        self.wrong(
            read_web, ("", 0), ("\n", 0), ("knots 0\n", 0), ("knots 11\n", 0), ("knots 03\n", 0), ("knots -1\n", 0),
            ("knots\n", 0), ("knots 3 3\n", 0), (" knots 3\n", 0), ("knots 3 \n", 0), ("knots  3\n", 0),
            ("Knots 3\n", 0), ("knots 3", 0), ("knots 3\ntie 0 1", 1), ("knots 3\nknots 3\n", 1), ("knots 3\n\n", 1),
            ("knots 3\ntie 0 3\n", 1), ("knots 3\ntie 1 0\n", 1), ("knots 3\ntie 1 1\n", 1), ("knots 3\ntie 0\n", 1),
            ("knots 3\ntie 0 1\ntie 0 1\n", 2), ("knots 3\ntie 1 2\ntie 0 1\n", 2), ("knots 3\ntie 00 1\n", 1),
            ("knots 3\ntie 0 1 2\n", 1), ("tie 0 1\n", 0), ("knots 10\ntie 8 9\ntie 9 10\n", 2), ("knots 3\n ", 1),
            ("knots " + "9" * 5000 + "\n", 0), ("knots 3\ntie 0 " + "1" * 5000 + "\n", 1), ("knots +3\n", 0),
            ("knots 1\ntie 0 1\n", 1), ("knots 3\ntie 0 1\n\n", 2), ("knots 1.0\n", 0), ("knots 1_0\n", 0))
        self.assertEqual(read_web("knots 10\ntie 8 9\n"), Web(10, ((8, 9),)))

    def test_rings(self):
        self.wrong(
            read_ring, ("", 0), ("ring\n", 0), ("ring 0\n", 0), ("ring 0 1\n", 0), ("ring 0 0 0\n", 0), ("ring 1 1\n",
            0),
            ("ring 0 0 \n", 0), ("ring 0  0\n", 0), ("ring 00 0\n", 0), ("ring 0 0\nring 0 0\n", 1), ("ring 0 0\n\n",
            1),
            ("ring 0 0\nx", 1), ("ring 0 0", 0), ("ring 0 2 0 2\n", 0), ("ring " + "9" * 6000 + "\n", 0),
            ("ring " + " ".join(map(str, list(range(11)) * 2)) + "\n", 0), ("ring 0,0\n", 0), ("rings 0 0\n", 0))

    def test_marks(self):
        eleven = "marks" + " 0" * 11 + "\n"
        self.wrong(
            read_marks, ("", 0), ("marks\n", 0), ("marks 1\n", 0), ("marks 2\n", 0), ("marks 0 1\n", 1),
            ("marks 0 1\nmarks 0 1\n", 1), ("marks 0 1\nmarks 0\n", 1), ("marks 0 1\nmarks 0 0 0\n", 1),
            ("marks 0\nmarks 0\n", 1), ("marks 0 1\nmarks 1 0\nmarks 0 0\n", 2), (eleven, 0), (eleven * 11, 0),
            ("marks 0 0\nmarks 0 0", 1), ("marks 0 0\n\n", 1), ("marks 0 00\n", 0), ("marks 01\n", 0),
            ("marks 0 1 0\nmarks 0 0 0\n", 2), ("marks 0 1 0\nmarks 0 0 0\nmarks 0 0 1\n", 2))

    def test_steps(self):
        self.wrong(
            read_steps, ("\n", 0), ("turn\n", 0), ("turn 10\n", 0), ("turn 2\nleave 10\n", 1), ("swing 2\n", 0),
            ("turn 2", 0), ("turn 2\nleave 3", 1), ("turn 2\n\n", 1), ("turn 02\n", 0), ("turn 2 3\n", 0), ("Turn 2\n",
            0),
            ("turn 0\n" * 201, 200), ("turn 0\n" * 200 + "x", 200), ("turn 0\n" * 200 + "\n", 200), ("turn -1\n", 0),
            ("turn 0\n" * 199 + "turn 0", 199), ("turn 2\nleave 2\nturn two\n", 2), ("leave\n", 0),
            ("turn " + "1" * 9999, 0))

    def test_strings(self):
        self.wrong(
            read_strings, ("", 0), ("string\n", 0), ("string \n", 0), ("string I\n", 1), ("string x\n", 0),
            ("string XZ\n", 1), ("string XZ\nstring ZX\nstring YY\n", 2), ("string XX\nstring XX\n", 2),
            ("string XX\nstring ZI\n", 2), ("string XX\nstring Z\n", 1), ("string X\nstring X\n", 1), ("string X X\n",
            0),
            ("string XX\nstring ZZZ\n", 1), ("string X", 0), ("string X\n\n", 1), ("string A\n", 0),
            ("string " + "X" * 11 + "\n", 0), ("string XX\nstring ZZ", 1), ("string XX\n\nstring ZZ\n", 1))

    def test_nets(self):
        loop = "line 0 0\n"
        self.wrong(
            read_net, ("", 0), ("net 0\n", 0), ("net 11\n", 0), ("net 1\n", 1), ("net 1\n" + loop, 2),
            ("net 1\n" + loop * 3, 3), ("net 1\nline 0 1\n", 1), ("net 2\n" + loop * 2 + "line 1 1\n" * 2, 5),
            ("net 2\n" + loop * 2 + "line 0 1\n", 3), ("net 2\nline 0 1\nline 1 0\nline 0 1\n", 4), ("net 1\nline 0\n",
            1),
            ("net 2\n" + "line 0 1\n" * 4 + "\n", 5), ("net 2\n" + "line 0 1\n" * 5, 5),
            ("net 1\n" + loop + "line 0 0", 2),
            ("net 1\nline 0 00\n", 1), ("knots 1\n", 0), ("net 1\ntie 0 0\n", 1),
            ("net 2\nline 0 1\nline 0 0\nline 0 1\n", 4),
            ("net 2\nline 0 1\nline 0 1\nline 0 1\nline 0 0\n", 4), ("net 2\nline 0 0\nline 1 1\nline 0 2\n", 3))
        self.assertEqual(read_net("net 2\nline 0 1\nline 0 0\nline 1 0\nline 1 1\n").lines, (
            (0, 1), (0, 0), (1, 0), (1, 1)))

    def test_20000_signs(self):
        for read in READERS:
            for text in ("x" * 20000, "9" * 20000, "knots " + "9" * 19994, " " * 19999 + "\n",
                    "turn " + "0" * 19994 + "\n"):
                self.refused(ParseError, read, text, kept=("spot", 0))
                self.refused(InvalidText, read, text + "x")
            self.refused(ParseError, read, "\n" * 20000, kept=("spot", 0))
        self.refused(ParseError, read_web, "knots 3\n" + "y" * 19992, kept=("spot", 1))
        for sign in map(chr, range(32, 127)):
            self.refused(ParseError, read_web, "knots 3\n" + sign + "\n", kept=("spot", 1))
        self.refused(ParseError, read_steps, "turn 1\n" * 2857 + "\n", kept=("spot", 200))


class Refusals(Case):

    def test_text(self):
        for value in NO_TEXTS:
            for read in READERS:
                self.refused(InvalidText, read, value)
        for value in STRAYS:
            if isinstance(value, str) and value:
                for read in READERS:
                    self.refused(ParseError, read, value, kept=("spot", first_wrong(read, value)))

    def test_things(self):
        for value in NO_WEBS:
            self.refused(InvalidWeb, web_text, value)
        for value in WRONG_RINGS + tuple(bent((0, 1, 0, 1), 10 ** 99)):
            self.refused(InvalidRing, ring_text, value)
        for value in NO_MARKS + STRAYS + tuple(bent(((0, 1), (0, 0)), 10 ** 99)):
            self.refused(InvalidMarks, marks_text, value)
        for value in NO_FULL + tuple(bent(LINE, 10 ** 99)):
            if not among(value, [LINE]):
                self.refused(InvalidString, strings_text, value)
        for value in NO_NETS + (PATH,):
            self.refused(InvalidWeb, net_text, value)
        self.refused(InvalidWeb, web_text, ONE)

    def test_steps(self):
        right = (("turn", 2), ("leave", 0))
        wrong = tuple(value for value in STRAYS if value != ()) + tuple(bent(right, 10 ** 99)) + (
            (("turn", 10),), (("turn", -1),), (("turn", True),), (("swing", 1),), (("turn",),), (("turn", 1, 1),),
            (["turn", 1],), [("turn", 1)], ("turn", 1), (("turn", 1),) * 201, (("turn", "1"),), ((1, "turn"),),
            (("turn", None),), "turn 1\n", {0: ("turn", 1)}, (("turn", 10 ** 60),), (None,), (("turn", 1), None))
        for value in wrong:
            self.refused(InvalidSteps, steps_text, value)


class NotTrue(Case):
    """[21.5]"""

    def test_without_a_line(self):
        self.assertEqual(read_web("knots 3\ntie 0 2\n"), Web(3, ((0, 2),)))
        self.assertEqual(read_web("knots 3\n"), Web(3, ()))

    def test_rings_that_are_like(self):
        self.assertNotEqual(ring_text((0, 0, 1, 1)), ring_text((0, 1, 1, 0)))

    def test_exchanged_lines(self):
        self.same([read_steps("turn 1\nleave 0\n"), read_steps("leave 0\nturn 1\n")], [
            (("turn", 1), ("leave", 0)), (("leave", 0), ("turn", 1))])
        self.assertNotEqual(read_net(net_text(LOOPS)), read_net("net 2\nline 0 1\nline 0 0\nline 1 0\nline 1 1\n"))
        self.assertIsInstance(read_net(net_text(LOOPS)), Net)

    def test_without_the_last_newline(self):
        for read, text in right_texts():
            if text:
                self.refused(ParseError, read, text[:-1], kept=("spot", text.count("\n") - 1))


if __name__ == "__main__":
    unittest.main()
