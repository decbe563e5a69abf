import doctest
import os
import unittest

TOP = os.path.dirname(os.path.dirname(os.path.abspath(__file__)))


class ReadmeTest(unittest.TestCase):
    def test_examples(self):
        found = doctest.testfile(os.path.join(TOP, "README.md"), module_relative=False)
        self.assertEqual(found.failed, 0)
        self.assertGreater(found.attempted, 5)


if __name__ == "__main__":
    unittest.main()
