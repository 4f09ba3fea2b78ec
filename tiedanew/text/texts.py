"""Texts of webs, rings, marks, steps, full lots and nets, line by line."""

from tiedanew.errors import InvalidSteps, InvalidText, ParseError
from tiedanew.lesser.steps import is_step
from tiedanew.ring.marks import check_marks, has_marks_form
from tiedanew.ring.rings import check_ring, is_ring
from tiedanew.string.lots import check_full, is_full
from tiedanew.string.rows import is_string
from tiedanew.tour.nets import Net, are_lines, check_net
from tiedanew.web.webs import MOST_KNOTS, Web, check_web

MOST_TEXT = 20000
MOST_STEPS = 200


def _line(word, numbers):
    """The word and the numbers as a line."""
    return " ".join([word] + [str(number) for number in numbers]) + "\n"


def _lines_of(word, rows):
    return "".join([_line(word, row) for row in rows])


def _words_of(text):
    """The list of the words of each line; an unfinished last line has none, so it is of no form."""
    if not isinstance(text, str) or len(text) > MOST_TEXT:
        raise InvalidText("a text is a string of at most 20,000 signs")
    if not all([" " <= sign <= "~" or sign == "\n" for sign in text]):
        raise InvalidText("a text has printable ASCII signs and newlines")
    lines = text.split("\n")
    found = [line.split(" ") for line in lines[:-1]]
    return found if lines[-1] == "" else found + [[]]


def _numbers_in(words, first, limit):
    """The numbers of a line that begins with this word, None unless all are numbers below the limit."""
    # The digits of all numbers are at hand, so none with zeros ahead, or with more digits, is taken.
    digits = [str(number) for number in range(limit)]
    if words[:1] != [first] or not all([word in digits for word in words[1:]]):
        return None
    return tuple([digits.index(word) for word in words[1:]])


def _read(text, member_in, whole_of):
    """What the lines tell: each one a member, or None if it is wrong; all of them the whole, or None."""
    members = ()
    for index, words in enumerate(_words_of(text)):
        member = member_in(words, members)
        if member is None:
            raise ParseError(index)
        members = members + (member,)
    whole = whole_of(members)
    if whole is None:
        raise ParseError(len(members))
    return whole


def _knots_in(words, first):
    """The number of knots of the first line of a web or a net, None if it is wrong."""
    numbers = _numbers_in(words, first, MOST_KNOTS + 1)
    if numbers is None or len(numbers) != 1 or numbers[0] == 0:
        return None
    return numbers[0]


def _web_member(words, members):
    if not members:
        return _knots_in(words, "knots")
    tie = _numbers_in(words, "tie", members[0])
    if tie is None or len(tie) != 2 or tie[0] >= tie[1]:
        return None
    if len(members) > 1 and tie <= members[-1]:
        return None
    return tie


def web_text(web):
    """The text of a web: the number of its knots, and a line for each tie."""
    check_web(web)
    return _line("knots", (web.knots,)) + _lines_of("tie", web.ties)


def read_web(text):
    """The web of the text."""
    return _read(text, _web_member, lambda members: Web(members[0], members[1:]) if members else None)


def _ring_member(words, members):
    names = _numbers_in(words, "ring", MOST_KNOTS)
    if members or names is None or not is_ring(names):
        return None
    return names


def ring_text(ring):
    """The text of a ring: a line with its names."""
    check_ring(ring)
    return _line("ring", ring)


def read_ring(text):
    """The ring of the text."""
    return _read(text, _ring_member, lambda members: members[0] if members else None)


def _marks_member(words, members):
    bits, at = _numbers_in(words, "marks", 2), len(members)
    if bits is None or len(bits) > MOST_KNOTS or at >= len(bits) or bits[at] == 1:
        return None
    if members and len(bits) != len(members[0]):
        return None
    return bits


def marks_text(marks):
    """The text of marks: a line with the bits of each knot."""
    check_marks(marks)
    return _lines_of("marks", marks)


def read_marks(text):
    """The marks of the text."""
    def whole(members):
        return members if members and has_marks_form(members, len(members)) else None
    return _read(text, _marks_member, whole)


def _steps_member(words, members):
    for word in ("turn", "leave"):
        knots = _numbers_in(words, word, MOST_KNOTS)
        if knots is not None and len(knots) == 1 and len(members) < MOST_STEPS:
            return (word, knots[0])
    return None


def _check_steps(value):
    if not isinstance(value, tuple) or len(value) > MOST_STEPS:
        raise InvalidSteps("steps are a tuple of at most 200")
    if not all([is_step(step, MOST_KNOTS) for step in value]):
        raise InvalidSteps("steps are turns and leavings of knots from 0 to 9")


def steps_text(steps):
    """The text of steps: a line for each one."""
    _check_steps(steps)
    return "".join([_line(word, (knot,)) for word, knot in steps])


def read_steps(text):
    """The steps of the text."""
    return _read(text, _steps_member, lambda members: members)


def _strings_member(words, members):
    if len(words) != 2 or words[0] != "string" or not is_string(words[1]):
        return None
    first = members[0] if members else words[1]
    if len(words[1]) != len(first) or len(members) == len(first):
        return None
    return words[1]


def strings_text(lot):
    """The text of a full lot: a line for each string."""
    check_full(lot)
    return "".join(["string " + string + "\n" for string in lot])


def read_strings(text):
    """The full lot of the text."""
    return _read(text, _strings_member, lambda members: members if is_full(members) else None)


def _net_member(words, members):
    if not members:
        return _knots_in(words, "net")
    line = _numbers_in(words, "line", members[0])
    if line is None or len(line) != 2:
        return None
    ends = [knot for each in members[1:] + (line,) for knot in each]
    if any([ends.count(knot) > 4 for knot in line]):
        return None
    return line


def net_text(net):
    """The text of a net: the number of its knots, and a line for each of its lines."""
    check_net(net)
    return _line("net", (net.knots,)) + _lines_of("line", net.lines)


def read_net(text):
    """The net of the text."""
    def whole(members):
        return Net(members[0], members[1:]) if members and are_lines(members[1:], members[0]) else None
    return _read(text, _net_member, whole)
