"""The examples of README.md give what stands there."""

import doctest
import pathlib
import unittest

README = pathlib.Path(__file__).resolve().parent.parent / "README.md"


class Readme(unittest.TestCase):

    def test_examples(self):
        blocks = README.read_text(encoding="ascii").split("```\n")[1::2]
        examples = [block for block in blocks if block.startswith(">>> ")]
        self.assertTrue(examples)
        for block in examples:
            test = doctest.DocTestParser().get_doctest(block, {}, "README.md", "README.md", 0)
            told = []
            doctest.DocTestRunner(verbose=False).run(test, out=told.append)
            self.assertEqual("".join(told), "")
