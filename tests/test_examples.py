"""The examples of the document, one behind the other, as they stand there."""

import doctest
import pathlib
import unittest

FILE = pathlib.Path(__file__).resolve().parent / "examples.txt"
README = FILE.parent.parent / "README.md"


class Examples(unittest.TestCase):
    def test_examples(self):
        text = FILE.read_text()
        parts = doctest.DocTestParser().get_doctest(text, {}, "examples", str(FILE), 0)
        self.assertEqual(len(parts.examples), 169)
        told = []
        doctest.DocTestRunner(verbose=False).run(parts, out=told.append)
        self.assertEqual("".join(told), "")

    def test_readme(self):
        told = []
        parts = doctest.DocTestParser().get_doctest(README.read_text(), {}, "readme", str(README), 0)
        doctest.DocTestRunner(verbose=False).run(parts, out=told.append)
        self.assertEqual("".join(told), "")


if __name__ == "__main__":
    unittest.main()
