import doctest
import os
import unittest

README = os.path.join(os.path.dirname(__file__), "..", "README.md")


class Readme(unittest.TestCase):
    def test_what_it_shows(self):
        found = doctest.testfile(README, module_relative=False)
        self.assertEqual(found.failed, 0)
        self.assertTrue(found.attempted > 0)


if __name__ == "__main__":
    unittest.main()
