"""The examples of README.md."""

import doctest
import pathlib
import re
import unittest

README = pathlib.Path(__file__).resolve().parent.parent / "README.md"


class Examples(unittest.TestCase):
    def test_they_give_what_stands_there(self):
        blocks = re.findall("\n```\n(>>>.*?)\n```\n", README.read_text(encoding="ascii"), re.DOTALL)
        self.assertGreater(len(blocks), 5)
        # One after another, as a reader would: later ones use what earlier ones imported.
        test = doctest.DocTestParser().get_doctest("\n\n".join(blocks) + "\n", {}, "README.md", "README.md", 0)
        told = []
        doctest.DocTestRunner(verbose=False).run(test, out=told.append)
        self.assertEqual("".join(told), "")


if __name__ == "__main__":
    unittest.main()
