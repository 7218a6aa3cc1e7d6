import unittest

from orderkeep.errors import NoHouse, NoText
from orderkeep.houses import EMPTY, house_of
from orderkeep.housetexts import read_house, show_house
from tests.houses_by_words import made_houses
from tests.samples import deep_knots, forward_ties, many_names, strange_things
from tests.test_deeds import HOUSE

TEXT = """top a g e
group g b h d
group h c
tie a c
tie b d
tie g e
wait e b
wait d b
first a
last e
last d
first c"""
# each word of the text is a name
WORDS = house_of(
    [("", ("top", "group", "tie", "wait")), ("group", ("first", "last")), ("wait", ())],
    [("top", "tie"), ("first", "last")], [("tie", "top"), ("last", "first")], [("first", "first"), ("last", "wait")])
WORDS_TEXT = """top top group tie wait
group group first last
group wait
tie top tie
tie first last
wait tie top
wait last first
first first
last wait"""


class ShownTest(unittest.TestCase):
    def test_to_the_letter(self):
        self.assertEqual(show_house(HOUSE), TEXT)
        self.assertEqual(show_house(WORDS), WORDS_TEXT)

    def test_the_house_without_units_and_groups_without_children(self):
        self.assertEqual(show_house(EMPTY), "top")
        self.assertEqual(show_house(house_of([("", ("g",)), ("g", ())], [], [], [])), "top g\ngroup g")
        house = house_of([("", ("h", "a", "g")), ("g", ()), ("h", ())], [], [], [("last", "g")])
        self.assertEqual(show_house(house), "top h a g\ngroup g\ngroup h\nlast g")


class ReadTest(unittest.TestCase):
    def test_read(self):
        self.assertEqual(read_house(TEXT), HOUSE)
        self.assertEqual(read_house(WORDS_TEXT), WORDS)
        self.assertEqual(read_house("top"), EMPTY)
        self.assertEqual(read_house("top g\ngroup g"), ((("", ("g",)), ("g", ())), (), (), ()))
        self.assertEqual(read_house("top a\nlast a"), ((("", ("a",)),), (), (), (("last", "a"),)))
        self.assertEqual(read_house("top a b\nlast b\nfirst a"), (
            (("", ("a", "b")),), (), (), (("last", "b"), ("first", "a"))))
        self.assertEqual(read_house("top abcdefgh"), ((("", ("abcdefgh",)),), (), (), ()))

    def test_there_and_back(self):
        names = many_names(60)
        ties = forward_ties(names, 150)
        for house in made_houses(150) + [
            HOUSE, WORDS, EMPTY, house_of(deep_knots(), [("xg", "yg")], [("yg", "xg")], [("first", "xg")]),
            house_of([("", tuple(names))], ties, [tie[::-1] for tie in ties[:50]], []),
            house_of([("", tuple(name + "sixsix" for name in names))], [], [], [("last", names[59] + "sixsix")]),
        ]:
            text = show_house(house)
            self.assertEqual(read_house(text), house)
            self.assertEqual(show_house(read_house(text)), text)


class RefusedCase(unittest.TestCase):
    def refuse(self, text, line):
        with self.assertRaises(NoText, msg=repr(text)) as caught:
            read_house(text)
        self.assertEqual(caught.exception.__class__, NoText)
        self.assertEqual(caught.exception.line, line, repr(text))


class NoTextTest(RefusedCase):
    def test_what_is_no_text(self):
        for thing in [0, 1, [], (), ["top"], ("top",), {"top": "a"}] + strange_things():
            self.refuse(thing, 0)

    def test_the_first_line(self):
        for text in [
            "", " ", "\n", "a", "Top", "TOP", "topa", "top,a", " top", "top ", "top a ", "top  a", "top a  b", "\ntop",
            "top A", "top a1", "top abcdefghi", "top\ta", "top a\t", "top a\r", "group g", "group", "tie a b",
            "wait a b", "first a", "last a", "things a", "top > a", "top a,b", "top -",
        ]:
            self.refuse(text, 0)
            self.refuse(text + "\ngroup g", 0)
            self.refuse(text + "\n?", 0)

    def test_a_line_of_no_such_form(self):
        lines = TEXT.split("\n")
        for line in [
            "", " ", "a", "Group g", "TIE a b", "groups g", "ties a b", "ti", "waiting a b", "want first a", "firsts a",
            "top", "top a", "top a g e", "group", "group ", "group G", "group g ", "group  g", "group g  b",
            "group g b ", " group g", "group g B", "group abcdefghi", "tie", "tie a", "tie a b c", "tie a  b",
            "tie  a b", "tie a b ", " tie a b", "tie A b", "tie a B", "tie a ", "tie a > b", "a > b", "wait", "wait a",
            "wait a b c",
            "wait a  b", "wait a b ", " wait a b", "wait a B", "first", "first ", "first a b", "first  a", "first a ",
            " first a", "first A", "last", "last a b", "last a ", "last abcdefghi", "last\ta", "last a\r", "drop a",
            "?",
        ]:
            for number in (1, 3, 4, 7, 9, 11):
                self.refuse("\n".join(lines[:number] + [line] + lines[number:]), number)
                self.refuse("\n".join(lines[:number] + [line] + ["?"]), number)
            self.refuse(TEXT + "\n" + line, 12)

    def test_a_line_end_behind_the_last_line(self):
        self.refuse("top\n", 1)
        self.refuse(TEXT + "\n", 12)
        self.refuse(TEXT + "\n\n", 12)
        self.refuse(TEXT.replace("\n", "\n\n"), 1)

    def test_top_first_and_once(self):
        lines = TEXT.split("\n")
        self.refuse("\n".join(lines[1:]), 0)
        self.refuse("\n".join(lines[1:2] + lines[:1] + lines[2:]), 0)
        for number in range(1, 13):
            self.refuse("\n".join(lines[:number] + [lines[0]] + lines[number:]), number)
            self.refuse("\n".join(lines[:number] + ["top"] + lines[number:]), number)

    def test_groups_then_ties_then_waits_then_wants(self):
        for first, second in [
            ("tie a b", "group g"), ("wait b a", "group g"), ("first a", "group g"), ("last b", "group g"),
            ("wait b a", "tie a b"), ("first a", "tie a b"), ("last b", "tie a b"), ("first a", "wait b a"),
            ("last b", "wait b a"),
        ]:
            self.refuse("top a b g\n" + first + "\n" + second, 2)
            self.refuse("top a b g\ngroup k\n" + first + "\n" + first + "\n" + second + "\n?", 4)

    def test_ahead_of_no_house(self):
        # no good house by its second line, and no text by its last one
        self.refuse("top a a\ntie a x\ngroup g", 2)
        self.refuse("top a\ntie x y\n", 2)
        self.refuse("top a\nfirst a\nfirst a\nlast", 3)


class NoHouseTest(unittest.TestCase):
    def test_what_is_written_is_no_good_house(self):
        names = many_names(61)
        ties = forward_ties(names[:60], 201)
        for text in [
            "top a a", "top\ngroup g", "top g\ngroup g\ngroup g", "top g\ngroup g g", "top g h\ngroup g h",
            "top a\ntie a b", "top a\ntie a a", "top g\ngroup g a\ntie g a", "top a b\ntie b a", "top a b\nwait a b",
            "top a b\ntie a b\ntie a b", "top a b\ntie a b\nwait a b", "top a b\nfirst b", "top a b\nlast a",
            "top a\nfirst b", "top a\nfirst a\nlast a", "top a\nfirst a\nfirst a", "top a b\nfirst a\nfirst b",
            "top a b\ntie a b\nwait b a\nwait b a", " ".join(["top"] + names),
            "\n".join([" ".join(["top"] + names[:60])] + ["tie " + " ".join(tie) for tie in ties]),
            "top a\ngroup a b\ngroup b c\ngroup c d\ngroup d e\ngroup e f\ngroup f g\ngroup g",
        ]:
            with self.assertRaises(NoHouse, msg=text) as caught:
                read_house(text)
            self.assertEqual(caught.exception.__class__, NoHouse)


if __name__ == "__main__":
    unittest.main()
