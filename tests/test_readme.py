"""The examples of README.md."""

import doctest
import os
import unittest

ROOT = os.path.dirname(os.path.dirname(os.path.abspath(__file__)))


class ReadmeTest(unittest.TestCase):

    def test_examples(self):
        failed, tried = doctest.testfile(os.path.join(ROOT, "README.md"), module_relative=False)
        self.assertEqual(failed, 0)
        self.assertGreater(tried, 10)


if __name__ == "__main__":
    unittest.main()
