"""A bench with webs under names, and answers that are kept."""

from tiedanew.errors import InvalidText, NothingToUndo, TooMany, UnknownName
from tiedanew.kin.sums import is_kin_or_bar, kin_or_bar
from tiedanew.web.webs import beside, check_web, left_out, renamed, swung, turned

MOST_WEBS = 12
MOST_NAME = 8


def _check_new(name):
    if not isinstance(name, str) or not 1 <= len(name) <= MOST_NAME:
        raise InvalidText("a name is a string of 1 to 8 letters")
    if not all(["a" <= letter <= "z" for letter in name]):
        raise InvalidText("the letters of a name are those from a to z")


class Bench:
    """Webs under names, answers of questions, and the places ahead and behind."""

    def __init__(self):
        # A place is a pair (webs, answers); here are those that can be undone, and those that can be redone.
        self._ahead = []
        self._behind = []
        self._webs = {}
        self._answers = {}

    def _web_under(self, name):
        """The web with this name; UnknownName without one."""
        if not isinstance(name, str) or name not in self._webs:
            raise UnknownName(name)
        return self._webs[name]

    def _check_room(self, name):
        if name not in self._webs and len(self._webs) == MOST_WEBS:
            raise TooMany(MOST_WEBS)

    def _go_on(self, webs, answers):
        """A new place behind this one."""
        self._ahead.append((self._webs, self._answers))
        self._behind = []
        self._webs = webs
        self._answers = answers

    def _go_on_with(self, name, web):
        """A new place where the name stands for the web."""
        webs = {known: self._webs[known] for known in self._webs}
        webs[name] = web
        self._go_on(webs, {pair: self._answers[pair] for pair in self._answers})

    def put(self, name, web):
        """From now on the web has this name."""
        _check_new(name)
        check_web(web)
        self._check_room(name)
        self._go_on_with(name, web)

    def drop(self, name):
        """From now on the name stands for nothing, and has no answers."""
        self._web_under(name)
        webs = {known: self._webs[known] for known in self._webs if known != name}
        self._go_on(webs, {pair: self._answers[pair] for pair in self._answers if name not in pair})

    def turn(self, name, knot):
        """The web is turned at the knot."""
        self._go_on_with(name, turned(self._web_under(name), knot))

    def swing(self, name, one, two):
        """The web is swung at both knots."""
        self._go_on_with(name, swung(self._web_under(name), one, two))

    def leave(self, name, knot):
        """The knot is left out of the web."""
        self._go_on_with(name, left_out(self._web_under(name), knot))

    def rename(self, name, order):
        """Each knot v of the web is called order[v]."""
        self._go_on_with(name, renamed(self._web_under(name), order))

    def unite(self, new, name, other):
        """Both webs side by side have the new name."""
        _check_new(new)
        web = beside(self._web_under(name), self._web_under(other))
        self._check_room(new)
        self._go_on_with(new, web)

    def undo(self):
        """Back to the place ahead."""
        if not self._ahead:
            raise NothingToUndo(1)
        self._behind.append((self._webs, self._answers))
        self._webs, self._answers = self._ahead.pop()

    def redo(self):
        """On again to the place from which the last undo led back."""
        if not self._behind:
            raise NothingToUndo(-1)
        self._ahead.append((self._webs, self._answers))
        self._webs, self._answers = self._behind.pop()

    def web_of(self, name):
        """The web with this name."""
        return self._web_under(name)

    def _right_answer(self, name, other):
        """The kept answer if it is right for both webs as they are now, else None."""
        one, two = self._web_under(name), self._web_under(other)
        answer = self._answers.get((name, other))
        if one.knots != two.knots or not is_kin_or_bar(one, two, answer):
            return None
        return answer

    def ask(self, name, other):
        """The kept answer if it is right, else a new one of `kin_or_bar`, which is kept."""
        answer = self._right_answer(name, other)
        if answer is None:
            # Webs with unlike numbers of knots are refused here.
            answer = kin_or_bar(self._webs[name], self._webs[other])
            self._answers[(name, other)] = answer
        return answer

    def known(self, name, other):
        """The kept answer if it is right for both webs as they are now, else None."""
        return self._right_answer(name, other)

    @property
    def names(self):
        """The ascending tuple of the names."""
        return tuple(sorted(list(self._webs)))

    def __contains__(self, name):
        return isinstance(name, str) and name in self._webs

    def __len__(self):
        return len(self._webs)

    def __eq__(self, other):
        return isinstance(other, Bench) and self._webs == other._webs

    def __str__(self):
        return f"bench of {len(self._webs)} webs, {len(self._ahead)} edits"
