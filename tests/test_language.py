"""The form of the code: what LANGUAGE.md asks for, as far as a reading of the code tells it."""

import unittest

from tests.language import faults_of_package


class LanguageTest(unittest.TestCase):
    def test_package_follows_the_rules(self):
        self.assertEqual(faults_of_package(), [])


if __name__ == "__main__":
    unittest.main()
