"""The examples of README.md."""

import doctest
import pathlib
import re
import unittest

README = pathlib.Path(__file__).resolve().parent.parent / "README.md"


class ReadmeTest(unittest.TestCase):

    def test_examples(self):
        blocks = re.findall(r"^```\n(.*?)^```$", README.read_text(encoding="ascii"), re.S | re.M)
        self.assertGreater(len(blocks), 0)
        names = {}
        for block in blocks:
            test = doctest.DocTestParser().get_doctest(block, names, "README.md", "README.md", 0)
            runner = doctest.DocTestRunner(verbose=False)
            runner.run(test, clear_globs=False)
            names.update(test.globs)
            self.assertEqual(runner.failures, 0)
            self.assertGreater(runner.tries, 0)


if __name__ == "__main__":
    unittest.main()
