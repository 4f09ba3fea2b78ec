"""The examples of README.md answer what is printed there."""

import doctest
import unittest
from pathlib import Path

README = Path(__file__).parent.parent / "README.md"


class Examples(unittest.TestCase):

    def test_all(self):
        blocks = README.read_text(encoding="utf-8").split("```")[1::2]
        examples = doctest.DocTestParser().get_doctest("\n".join(blocks), {}, "README.md", str(README), 0)
        self.assertGreater(len(examples.examples), 10)
        failed = doctest.DocTestRunner(verbose=False).run(examples).failed
        self.assertEqual(failed, 0)


if __name__ == "__main__":
    unittest.main()
