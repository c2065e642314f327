"""The package keeps to its subset of Python."""

import unittest

from tests.language import findings, sources


class LanguageTest(unittest.TestCase):

    def test_package(self):
        self.assertGreater(len(sources()), 10)
        self.assertEqual(findings(), [])


if __name__ == "__main__":
    unittest.main()
