import unittest

from orderkeep.names import is_name, is_whole
from tests.samples import strange_things


class NamesTest(unittest.TestCase):
    def test_names_have_one_to_eight_small_letters(self):
        for name in ["a", "z", "m", "az", "things", "abcdefgh", "zzzzzzzz"]:
            self.assertIs(is_name(name), True, name)

    def test_other_texts_are_no_names(self):
        for text in [
            "", "abcdefghi", "a" * 12000, "A", "aB", "Ab", "Z", "0", "a1", "1a", " ", " a", "a ", "a b",
            "\n", "a\n", "\na", "a\nb", "\t", "a\t", "_", "a_b", "-", "`", "{", ">", "@", "\u00e9", "a\u00df", "\u0430",
        ]:
            self.assertIs(is_name(text), False, repr(text))

    def test_other_kinds_are_no_names(self):
        for thing in strange_things() + [0, 1, -1, 10 ** 30, [], (), ["a"], ("a",)]:
            self.assertIs(is_name(thing), False, repr(thing))


class WholesTest(unittest.TestCase):
    def test_whole_numbers(self):
        for number in [0, 1, -1, 59, 10 ** 30, -10 ** 30]:
            self.assertIs(is_whole(number), True, number)

    def test_truths_are_no_whole_numbers(self):
        self.assertIs(is_whole(True), False)
        self.assertIs(is_whole(False), False)

    def test_other_kinds_are_no_whole_numbers(self):
        for thing in strange_things() + ["", "0", "1", "a", 1.0, [], (), [1], (1,), {1: 1}]:
            self.assertIs(is_whole(thing), False, repr(thing))


if __name__ == "__main__":
    unittest.main()
