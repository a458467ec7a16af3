"""The examples of README.md."""

import doctest
import os
import unittest

README = os.path.join(os.path.dirname(os.path.dirname(os.path.abspath(__file__))), "README.md")


class ReadmeTest(unittest.TestCase):
    def test_the_examples(self):
        with open(README, encoding="ascii") as file:
            text = "\n".join("" if line.startswith("```") else line for line in file.read().split("\n"))
        examples = doctest.DocTestParser().get_doctest(text, {}, "README", README, 0)
        self.assertGreater(len(examples.examples), 30)
        found = []
        doctest.DocTestRunner(verbose=False).run(examples, out=found.append)
        self.assertEqual(found, [])


if __name__ == "__main__":
    unittest.main()
