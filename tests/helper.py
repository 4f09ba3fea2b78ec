"""What all tests share: webs to try, values that are wrong, and slow counts by definition."""

import random
import unittest
from itertools import chain, combinations, product

from tiedanew.web.webs import Web

DEEP = ((((((((),),),),),),),)
STRAYS = (
    None, True, False, 0, 1, 2, -1, 10, 11, 144, 145, 10 ** 59, 10 ** 60, -10 ** 60, 10 ** 99,
    "", "0", "bits", "bar", "x y\nz" * 700, (), [], {}, [0], [0, 1], {0: 1}, {"knots": 2},
    ((),), ([],), ({},), (None,), (True,), (False,), ("0",), (-1,), (0, 0), (1, 0), (10 ** 99,), (0, None),
    ("bits",), ("bits", None), ("bar", None), ("pick", [0]), ("look", ()), ("marks", ()), ("bar", (), ()),
    ((0, 1), [0, 1]), ((0, 1), (0, True)), (("tied",),), DEEP, [[[[[[[[]]]]]]]], {0: {1: {2: [(3, {4: ()})]}}},
    Web(1, ()), Web(2, ((0, 1),)), Web(10, ()), (Web(2, ()),), [Web(2, ())], ("bits", Web(1, ())),
)

PATH = Web(4, ((0, 1), (1, 2), (2, 3)))
STAR = Web(4, ((0, 1), (0, 2), (0, 3)))
ROUND = Web(5, ((0, 1), (0, 4), (1, 2), (2, 3), (3, 4)))
WHEEL = Web(6, ((0, 1), (0, 2), (0, 3), (0, 4), (0, 5), (1, 2), (1, 5), (2, 3), (3, 4), (4, 5)))


class Case(unittest.TestCase):
    """A test case that can ask for an error as a whole, and for judges."""

    def refused(self, error, function, *arguments, kept=()):
        """The call raises just this error, keeps what `kept` (name, value) tells, and changes nothing."""
        before = repr(arguments)
        for _ in range(2):
            with self.assertRaises(error, msg=f"{function.__name__}{before[:300]}") as caught:
                function(*arguments)
            self.assertIs(type(caught.exception), error, f"{function.__name__}{before[:300]}")
            if kept:
                value = getattr(caught.exception, kept[0])
                self.assertEqual(value, kept[1])
                self.assertIs(type(value), type(kept[1]))
        self.assertEqual(repr(arguments), before)

    def refused_number(self, error, function, *arguments, at):
        """The call raises this error with the argument at the index."""
        self.refused(error, function, *arguments, kept=("given", arguments[at]))

    def told(self, function, *arguments):
        """What the call returns, twice the same; the arguments stay as they are."""
        before = repr(arguments)
        first, second = function(*arguments), function(*arguments)
        self.same(first, second)
        self.assertEqual(repr(arguments), before)
        return first

    def same(self, got, wanted):
        """Both are equal, True not being taken for 1, nor a list for a tuple."""
        self.assertEqual(got, wanted)
        self.assertEqual(kinds(got), kinds(wanted))

    def judged(self, expected, function, *arguments):
        """The judge returns just True or just False."""
        answer = function(*arguments)
        if answer is not expected:
            self.fail(f"{function.__name__} answers {answer!r} for {shown(arguments)}")


def shown(value):
    """The value for a message, whatever length its integers have."""
    try:
        return f"{value!r:.500}"
    except ValueError:
        return "a value with a very long integer"


def kinds(value):
    """The kinds of a value, and of all that it has in it."""
    if isinstance(value, (tuple, list)):
        return (type(value).__name__, [kinds(member) for member in value])
    if isinstance(value, dict):
        return ("dict", [(kinds(key), kinds(value[key])) for key in value])
    return type(value).__name__


def among(value, right):
    """Whether the value is one of the right ones, True not being taken for 1, nor a list for a tuple."""
    return any(value == other and kinds(value) == kinds(other) for other in right)


def bent(value, longest=10 ** 5000):
    """Values that are near a right one, but of other kinds: no judge may take one."""
    if isinstance(value, bool) or value is None:
        return
    if isinstance(value, int):
        if value in (0, 1):
            yield bool(value)
        yield from (str(value), None, (value,), [value], -value - 1, 10 ** 60 + value, longest + value)
    elif isinstance(value, str):
        yield from (value + "s", value.upper(), "", 0, None, (value,))
    elif isinstance(value, tuple):
        yield list(value)
        yield value + (None,)
        yield dict(enumerate(value))
        for index, member in enumerate(value):
            for other in bent(member, longest):
                yield value[:index] + (other,) + value[index + 1:]


def is_knot(value, many):
    """Whether a stray value happens to be one of the integers below many."""
    return type(value) is int and 0 <= value < many


def lots(many, least=0):
    """All ascending tuples of the integers below many, with at least so many of them."""
    return [lot for size in range(least, many + 1) for lot in combinations(range(many), size)]


def pairs_of(many):
    return list(combinations(range(many), 2))


def all_webs(knots):
    """All webs with so many knots."""
    pairs = pairs_of(knots)
    for size in range(len(pairs) + 1):
        for ties in combinations(pairs, size):
            yield Web(knots, ties)


def webs_up_to(knots):
    """All webs with at most so many knots."""
    return chain.from_iterable(all_webs(many) for many in range(1, knots + 1))


def full_web(knots):
    return Web(knots, tuple(pairs_of(knots)))


def star_web(knots):
    return Web(knots, tuple((0, knot) for knot in range(1, knots)))


def path_web(knots):
    return Web(knots, tuple((knot, knot + 1) for knot in range(knots - 1)))


def round_web(knots):
    return Web(knots, tuple(sorted([(knot, knot + 1) for knot in range(knots - 1)] + [(0, knots - 1)])))


def drawn_web(draw, knots, share=0.5):
    return Web(knots, tuple(pair for pair in pairs_of(knots) if draw.random() < share))


def drawn_webs(many, least=5, most=10, seed=7):
    """So many webs of several sizes and densities, the same in each run."""
    draw = random.Random(seed)
    return [drawn_web(draw, draw.randint(least, most), draw.choice((0.2, 0.4, 0.6, 0.8))) for _ in range(many)]


def in_one_piece(webs):
    return [web for web in webs if len(slow_pieces(web)) == 1]


def in_pieces(webs):
    return [web for web in webs if len(slow_pieces(web)) > 1]


def edge_webs():
    """The webs that the document names as edges."""
    sizes = (1, 2, 3, 4, 10)
    return [build(knots) for knots in sizes for build in (lambda n: Web(n, ()), full_web, star_web, path_web)] + [
        round_web(10), ROUND, WHEEL, Web(10, ((0, 1), (2, 3), (4, 5), (6, 7), (8, 9)))]


def joined(web, low, high):
    """Whether both knots are tied."""
    return (min(low, high), max(low, high)) in web.ties


def slow_near(web, knot):
    return tuple(other for other in range(web.knots) if joined(web, knot, other))


def slow_turned(web, knot):
    """A turn done tie by tie."""
    ties = {frozenset(tie) for tie in web.ties}
    for low, high in pairs_of(web.knots):
        if joined(web, low, knot) and joined(web, high, knot):
            ties ^= {frozenset((low, high))}
    return Web(web.knots, tuple(sorted(tuple(sorted(tie)) for tie in ties)))


def slow_left_out(web, knot):
    """The web without the knot, name by name."""
    names = [other for other in range(web.knots) if other != knot]
    ties = [(low, high) for low, high in pairs_of(len(names)) if joined(web, names[low], names[high])]
    return Web(len(names), tuple(ties))


def slow_behind(web, steps):
    """The web behind steps, turned and left one by one."""
    for word, knot in steps:
        web = slow_turned(web, knot) if word == "turn" else slow_left_out(web, knot)
    return web


def slow_kin(web):
    """All webs to which turns lead, turned again and again: the ties of each one, and a least row to it."""
    rows, layer = {web.ties: ()}, [web]
    while layer:
        behind = []
        for ahead in layer:
            for knot in range(web.knots):
                other = slow_turned(ahead, knot)
                if other.ties not in rows:
                    rows[other.ties] = rows[ahead.ties] + (knot,)
                    behind.append(other)
        layer = behind
    return rows


def slow_span(rows, many):
    """All sums of picks of the rows."""
    return {tuple(sum(column) % 2 for column in zip(*pick)) if pick else (0,) * many
            for size in range(len(rows) + 1) for pick in combinations(rows, size)}


def slow_rank(rows):
    """The rank, counted by the sums of all picks."""
    if not rows or not rows[0]:
        return 0
    return len(slow_span(rows, len(rows[0]))).bit_length() - 1


def slow_table(web, lot):
    beyond = [knot for knot in range(web.knots) if knot not in lot]
    if not beyond:
        return ()
    return tuple(tuple(int(joined(web, knot, other)) for other in beyond) for knot in lot)


def slow_cut_rank(web, lot):
    """The cut rank from the shorter side, by the sums of all picks of rows."""
    if 2 * len(lot) > web.knots:
        lot = tuple(knot for knot in range(web.knots) if knot not in lot)
    return slow_rank(slow_table(web, lot))


def slow_pieces(web):
    """Pieces, by joining lots until nothing changes."""
    found = [{knot} for knot in range(web.knots)]
    for low, high in web.ties:
        one, other = (next(lot for lot in found if knot in lot) for knot in (low, high))
        if one is not other:
            found.remove(other)
            one |= other
    return tuple(sorted(tuple(sorted(lot)) for lot in found))


def bit_rows(many):
    """All rows of so many bits."""
    return list(product((0, 1), repeat=many))
