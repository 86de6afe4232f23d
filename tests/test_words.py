import unittest

from surewatch.words import is_name
from tests.plain import STRANGE


class NameTest(unittest.TestCase):

    def test_names_of_one_to_eight_small_letters(self):
        for name in ("a", "z", "ab", "yes", "abcdefgh", "zzzzzzzz"):
            self.assertIs(is_name(name), True, name)

    def test_none_and_nine_letters_are_no_name(self):
        for thing in ("", "abcdefghi", "a" * 1000):
            self.assertIs(is_name(thing), False, thing)

    def test_other_signs_are_no_name(self):
        for thing in ("A", "aB", "a1", "1", "a ", " a", "a b", "a.", "-", "a_b", "a-b", "`", "{", "~", " "):
            self.assertIs(is_name(thing), False, thing)

    def test_other_things_are_no_name(self):
        for thing in STRANGE:
            self.assertIs(is_name(thing), thing in ("a", "yes", "any") and isinstance(thing, str), repr(thing))
