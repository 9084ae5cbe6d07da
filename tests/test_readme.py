"""README.md: its examples give what it says."""

import doctest
import pathlib
import unittest

README = pathlib.Path(__file__).resolve().parent.parent / "README.md"


class ReadmeTest(unittest.TestCase):
    def test_examples(self):
        # A fence right below a result would be read as a part of it.
        text = README.read_text().replace("```", "")
        examples = doctest.DocTestParser().get_doctest(text, {}, "README.md", "README.md", 0)
        told = doctest.DocTestRunner(verbose=False).run(examples)
        self.assertGreater(told.attempted, 5)
        self.assertEqual(told.failed, 0)


if __name__ == "__main__":
    unittest.main()
