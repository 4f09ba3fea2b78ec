"""Each example of the whole document once more, as printed; they go on from stage to stage."""

import importlib
import unittest
from pathlib import Path

from tests.test_interface import CLASSES, CONSTANTS, FUNCTIONS

EXAMPLES = Path(__file__).parent / "examples.txt"


def names_of_the_interface():
    """All names that the interface lists."""
    found = {}
    for module, told in FUNCTIONS.items():
        for line in told:
            name = line.partition("(")[0]
            assert name not in found, name
            found[name] = getattr(importlib.import_module(module), name)
    for module, constants in CONSTANTS.items():
        for name in constants:
            found[name] = getattr(importlib.import_module(module), name)
    for shape, _, _ in CLASSES.values():
        found[shape.__name__] = shape
    return found


def told_by(source, names):
    """What Python shows of a line, or how it raises."""
    try:
        try:
            code = compile(source, "example", "eval")
        except SyntaxError:
            exec(source, names)
            return ""
        answer = eval(code, names)
        return "" if answer is None else repr(answer)
    except Exception as error:
        kept = ", ".join(repr(value) for value in vars(error).values())
        return f"raises {type(error).__name__}" + (f"({kept})" if kept else "")


class Examples(unittest.TestCase):

    def test_all(self):
        names, many = names_of_the_interface(), 0
        lines = EXAMPLES.read_text(encoding="ascii").splitlines() + [""]
        for line, following in zip(lines, lines[1:]):
            if line.startswith(">>> "):
                wanted = following if following and not following.startswith((">>> ", "# ")) else ""
                self.assertEqual(told_by(line[4:], names), wanted, line)
                many += 1
        self.assertEqual(many, 125)


if __name__ == "__main__":
    unittest.main()
