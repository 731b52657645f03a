import doctest
import pathlib
import unittest

README = pathlib.Path(__file__).resolve().parent.parent / "README.md"


class Readme(unittest.TestCase):
    def test_its_examples(self):
        # An example ends at an empty line, and not at the fence behind it.
        text = README.read_text().replace("```", "")
        examples = doctest.DocTestParser().get_doctest(text, {}, "README.md", str(README), 0)
        failed, tried = doctest.DocTestRunner().run(examples)
        self.assertEqual(failed, 0)
        self.assertGreater(tried, 5)
