"""The examples in README.md."""

import doctest
import unittest
from pathlib import Path


class Readme(unittest.TestCase):

    def test_examples(self):
        text = (Path(__file__).resolve().parent.parent / "README.md").read_text(encoding="ascii")
        examples = doctest.DocTestParser().get_doctest(text.replace("\n```\n", "\n\n"), {}, "README.md", None, 0)
        self.assertGreater(len(examples.examples), 5)
        self.assertEqual(doctest.DocTestRunner(verbose=False).run(examples).failed, 0)


if __name__ == "__main__":
    unittest.main()
