import unittest

from orderkeep.errors import NoText
from orderkeep.webs import web_of
from orderkeep.webtexts import read_web, show_web
from tests.samples import all_webs, forward_ties, many_names, strange_things


class ShownTest(unittest.TestCase):
    def test_shown_in_their_order(self):
        web = web_of(["b", "a", "long"], [("long", "a"), ("b", "a"), ("a", "a")])
        self.assertEqual(show_web(web), "things b a long\nlong > a\nb > a\na > a")

    def test_without_things_and_without_ties(self):
        self.assertEqual(show_web(web_of([], [])), "things")
        self.assertEqual(show_web(web_of(["a"], [])), "things a")
        self.assertEqual(show_web(web_of(["things"], [])), "things things")


class ReadTest(unittest.TestCase):
    def test_read(self):
        self.assertEqual(read_web("things"), ((), ()))
        self.assertEqual(read_web("things b a"), (("b", "a"), ()))
        self.assertEqual(read_web("things b a\na > b\nb > b"), (("b", "a"), (("a", "b"), ("b", "b"))))
        self.assertEqual(read_web("things things\nthings > things"), (("things",), (("things", "things"),)))

    def test_shown_and_read_again(self):
        for web in all_webs(["c", "a", "b"], True):
            self.assertEqual(read_web(show_web(web)), web)
        names = many_names(60)
        for web in [web_of([], []), web_of(names, []), web_of(names, forward_ties(names, 400)[::-1])]:
            self.assertEqual(read_web(show_web(web)), web)
            self.assertEqual(show_web(read_web(show_web(web))), show_web(web))


class RefusedTest(unittest.TestCase):
    def refuse(self, text, line):
        with self.assertRaises(NoText) as caught:
            read_web(text)
        self.assertEqual(caught.exception.__class__, NoText)
        self.assertEqual(caught.exception.line, line, repr(text))

    def test_the_first_line(self):
        for text in [
            "", " ", "\n", "thing", "thingsa", "Things", "a", "a > b", " things", "things ", "things  a", "things a ",
            "things a  b", "things\ta", "things a\t", "things A", "things a1", "things abcdefghi", "things a a",
            "things b a b", "things a > b", "things,a", "\nthings a", "things a\r",
        ]:
            self.refuse(text, 0)
            self.refuse(text + "\na > b", 0)

    def test_a_line_that_tells_no_tie(self):
        for line in [
            "", " ", ">", "a", "b", "a >", "> b", "a b", "a > ", " > b", "a  > b", "a >  b", " a > b", "a > b ", "a>b",
            "a >b", "a> b", "a < b", "a > b > a", "a > b b", "a a > b", "A > b", "a > b1", "things", "things a b",
            "a\t> b", "a >> b", "a > b\r", "a > c", "c > a", "a > abcdefghi", "b > a",
        ]:
            self.refuse("things a b\nb > a\n" + line, 2)
            self.refuse("things a b\nb > a\n" + line + "\na > b", 2)
            self.refuse("things a b\nb > a\na > a\nb > b\n" + line + "\n?", 4)

    def test_a_line_end_behind_the_last_line(self):
        self.refuse("things\n", 1)
        self.refuse("things a\n", 1)
        self.refuse("things a\na > a\n", 2)
        self.refuse("things a\n\na > a", 1)

    def test_a_tie_told_twice(self):
        self.refuse("things a b\na > b\nb > a\na > b", 3)
        self.refuse("things a b\na > b\na > b\n?", 2)

    def test_a_tie_of_what_is_no_thing(self):
        self.refuse("things\na > a", 1)
        self.refuse("things a\na > a\na > b", 2)
        self.refuse("things b\nb > b\na > b", 2)

    def test_the_first_wrong_line_is_told(self):
        self.refuse("things a\na > b\nno line", 1)
        self.refuse("things a\nno line\na > b", 1)
        self.refuse("things a a\nno line", 0)

    def test_a_thing_too_many(self):
        names = many_names(61)
        self.assertEqual(read_web("things " + " ".join(names[:60]))[0], tuple(names[:60]))
        self.refuse("things " + " ".join(names), 0)
        self.refuse("things " + " ".join(names) + "\nno line", 0)

    def test_a_tie_too_many(self):
        names = many_names(60)
        head = "things " + " ".join(names)
        lines = [" > ".join(tie) for tie in forward_ties(names, 402)]
        self.assertEqual(len(read_web("\n".join([head] + lines[:400]))[1]), 400)
        self.refuse("\n".join([head] + lines[:401]), 401)
        self.refuse("\n".join([head] + lines), 401)
        self.refuse("\n".join([head] + lines[:399] + ["no line"] + lines[399:]), 400)

    def test_what_is_no_text(self):
        for thing in strange_things() + [0, 1, [], (), ["things"], ("things",), b"things"]:
            self.refuse(thing, 0)


if __name__ == "__main__":
    unittest.main()
