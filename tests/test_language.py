"""The files of the package keep to ../shared/LANGUAGE.md, as far as language.py sees it."""

import unittest

import language


class TestLanguage(unittest.TestCase):
    def test_the_package_keeps_to_the_language(self):
        self.assertEqual(language.finds(), [])

    def test_the_package_was_looked_at(self):
        names = [name for name, _, _ in language.sources()]
        self.assertIn("__init__.py", names)
        self.assertIn("walks.py", names)


if __name__ == "__main__":
    unittest.main()
