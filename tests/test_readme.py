"""The examples of the README, held against the program."""

import doctest
import unittest
from pathlib import Path


class Examples(unittest.TestCase):

    def test_readme(self):
        text = Path(__file__).parent.parent.joinpath("README.md").read_text(encoding="utf-8")
        # doctest would take the end of a block for output.
        lines = ["" if line.startswith("```") else line for line in text.split("\n")]
        examples = doctest.DocTestParser().get_doctest("\n".join(lines), {}, "README", None, 0)
        self.assertGreater(len(examples.examples), 20)
        self.assertEqual(doctest.DocTestRunner(verbose=False).run(examples).failed, 0)


if __name__ == "__main__":
    unittest.main()
