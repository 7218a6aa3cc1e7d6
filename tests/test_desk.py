import unittest

from orderkeep import errors
from orderkeep.desk import Desk
from orderkeep.housetexts import show_house
from tests.samples import many_names, strange_things
from tests.test_deeds import HOUSE
from tests.test_housetexts import TEXT, WORDS_TEXT

# these lead to HOUSE
MAKING = [
    "thing a", "thing g", "drop g", "thing b", "group g b", "thing e", "thing c g", "group h c", "thing d g", "tie a c",
    "tie b d", "tie g e", "wait e b", "wait d b", "first a", "last e", "last d", "first c",
]


def told_desk(rows):
    desk = Desk()
    for row in rows:
        desk.say(row)
    return desk


class DeskCase(unittest.TestCase):
    def setUp(self):
        self.desk = told_desk(MAKING)

    def answer(self, *pairs):
        for row, told in pairs:
            self.assertEqual(self.desk.say(row), told, row)

    def refuse(self, name, *rows, field=None):
        """Refused, and nothing is changed by it."""
        for row in rows:
            house = self.desk.say("house")
            with self.assertRaises(errors.OrderError, msg=repr(row)) as caught:
                self.desk.say(row)
            self.assertEqual(caught.exception.__class__, getattr(errors, name), repr(row))
            if field is not None:
                self.assertEqual(getattr(caught.exception, "name", getattr(caught.exception, "ring", None)), field)
            self.assertEqual(self.desk.say("house"), house)


class DoneTest(DeskCase):
    def test_each_row_that_does(self):
        self.desk = Desk()
        for row in MAKING:
            self.answer((row, "waits" if row.startswith("wait") else "ok"))
        self.answer(("house", TEXT))
        self.assertEqual(TEXT, show_house(HOUSE))

    def test_things_at_the_top_and_in_groups(self):
        self.answer(("thing x", "ok"), ("knot", "a g x e"), ("thing y h", "ok"), ("knot h", "c y"))

    def test_ties(self):
        self.answer(("tie h b", "ok"), ("knot g", "h b d"), ("untie h b", "ok"), ("knot g", "h b d"),
                    ("wait b h", "ok"), ("knot g", "b h d"), ("wait h b", "waits"), ("waiting", "e b ; d b ; h b"),
                    ("untie e b", "ok"), ("waiting", "d b ; h b"), ("untie b h", "ok"), ("waiting", "d b"))

    def test_what_goes(self):
        self.answer(("drop c", "ok"), ("knot h", ""), ("drop h", "ok"), ("knot g", "b d"), ("open g", "ok"),
                    ("knot", "a b d e"), ("drop a", "ok"), ("drop b", "ok"), ("drop d", "ok"), ("drop e", "ok"),
                    ("house", "top"))

    def test_groups(self):
        self.answer(("group k a", "ok"), ("knot", "k g e"), ("group l e g", "ok"), ("knot", "k l"), ("knot l", "g e"),
                    ("open l", "ok"), ("knot", "k g e"))

    def test_wants(self):
        lines = TEXT.split("\n")
        self.answer(("nofirst a", "ok"), ("nolast e", "ok"), ("nolast d", "ok"), ("nofirst c", "ok"),
                    ("house", "\n".join(lines[:8])), ("first h", "ok"), ("knot g", "h b d"), ("last d", "ok"),
                    ("house", "\n".join([lines[0], "group g h b d"] + lines[2:8] + ["first h", "last d"])))

    def test_undo_and_redo(self):
        self.answer(("undo", "ok"), ("undo", "ok"), ("house", "\n".join(TEXT.split("\n")[:10])), ("redo", "ok"),
                    ("redo", "ok"), ("house", TEXT))
        self.refuse("NoRedo", "redo")
        self.answer(*[("undo", "ok")] * len(MAKING), ("house", "top"))
        self.refuse("NoUndo", "undo")
        self.answer(*[("redo", "ok")] * len(MAKING), ("house", TEXT))

    def test_rows_that_ask_are_no_deeds(self):
        self.answer(("undo", "ok"))
        for row in ("house", "order", "knot", "knot g", "ring a b", "hangs a g", "layers", "layers g", "waiting"):
            self.desk.say(row)
        self.answer(("redo", "ok"), ("house", TEXT))

    def test_a_new_row_ends_what_could_be_done_again(self):
        self.answer(("undo", "ok"), ("drop a", "ok"))
        self.refuse("NoRedo", "redo")

    def test_names_that_are_words(self):
        self.desk = Desk()
        for row in ["thing top", "thing first", "thing last", "group group first last", "thing tie", "thing wait",
                    "group w wait", "thing x w", "drop x", "drop wait", "drop w", "thing y", "group wait y", "drop y"]:
            self.answer((row, "ok"))
        self.answer(("tie top tie", "ok"), ("tie first last", "ok"), ("wait tie top", "waits"),
                    ("wait last first", "waits"), ("first first", "ok"), ("last wait", "ok"), ("house", WORDS_TEXT))
        self.answer(("nofirst first", "ok"), ("untie tie top", "ok"), ("open wait", "ok"), ("open group", "ok"))

    def test_two_desks_side_by_side(self):
        one, other = Desk(), Desk()
        one.say("thing a")
        self.assertEqual((one.say("house"), other.say("house")), ("top a", "top"))


class AskedTest(DeskCase):
    def test_to_the_letter(self):
        self.answer(
            ("house", TEXT), ("order", "a b c d e"), ("knot", "a g e"), ("knot g", "b h d"), ("knot h", "c"),
            ("ring e b", "tie e b ; tie g e"), ("ring e a", "tie e a ; first a e"), ("ring d h", "tie d h ; last h d"),
            ("ring d b", "tie d b ; tie b d"), ("ring b d", "none"), ("ring g e", "none"), ("ring h b", "none"),
            ("hangs a e", "yes a e"), ("hangs a a", "yes a"), ("hangs g e", "yes g e"), ("hangs e a", "no"),
            ("hangs b h", "no"), ("hangs c c", "yes c"), ("layers", "0 1 2"), ("layers g", "0 0 1"), ("layers h", "0"),
            ("waiting", "e b ; d b"))

    def test_longer_ways_and_rings(self):
        self.desk = told_desk(["thing a", "thing b", "thing c", "thing d", "tie a b", "tie b c", "tie c d"])
        self.answer(("hangs a d", "yes a b c d"), ("hangs d a", "no"), ("layers", "0 1 2 3"),
                    ("ring d a", "tie d a ; tie a b ; tie b c ; tie c d"), ("ring a d", "none"),
                    ("ring c a", "tie c a ; tie a b ; tie b c"))

    def test_where_there_is_nothing_to_tell(self):
        self.desk = Desk()
        self.answer(("house", "top"), ("order", ""), ("knot", ""), ("layers", ""), ("waiting", ""))
        self.answer(("thing a", "ok"), ("group g a", "ok"), ("drop a", "ok"), ("knot g", ""), ("layers g", ""),
                    ("order", ""), ("knot", "g"), ("layers", "0"))

    def test_layers_of_ten_and_more(self):
        names = many_names(12)
        ties = ["tie " + " ".join(pair) for pair in zip(names, names[1:])]
        self.desk = told_desk(["thing " + name for name in names] + ties)
        self.answer(("layers", "0 1 2 3 4 5 6 7 8 9 10 11"))


class NoRowTest(DeskCase):
    def test_whatever_is_no_text(self):
        self.refuse("NoRow", None, 0, 1, True, [], (), {}, ["house"], ("thing", "x"), b"house", *strange_things())

    def test_another_first_word(self):
        self.refuse(
            "NoRow", "", " ", "a", "House", "HOUSE", "houses", "hous", "many", "many drop a", "want first a",
            "unwant a", "no first a", "Thing x", "things x", "do", "help", "top", "top a", "wait a b c", "\n",
            "house\n", "\nhouse", "house\norder", "redo;", "tie,a,b", "ring_of a b", "say house")

    def test_too_few_or_too_many_words(self):
        self.refuse(
            "NoRow", "thing", "thing x g h", "tie", "tie a", "tie a b c", "untie", "untie a", "untie a c e", "drop",
            "drop a b", "group", "group k", "open", "open g h", "first", "first a b", "last", "last a b", "nofirst",
            "nofirst a b", "nolast", "nolast e d", "undo a", "redo a", "undo 1", "wait", "wait a", "house a", "order a",
            "knot g h", "ring", "ring a", "ring a b c", "hangs", "hangs a", "hangs a e g", "layers g h", "waiting a")

    def test_a_word_that_is_no_name(self):
        for word in ("A", "a1", "abcdefghi", "a,", "-", "1", "a\n", "\t", "a\tb", "aB"):
            self.refuse(
                "NoRow", "thing " + word, "thing x " + word, "tie a " + word, "tie " + word + " a", "untie a " + word,
                "wait " + word + " a", "drop " + word, "group " + word + " a", "group k a " + word, "group k " + word,
                "open " + word, "first " + word, "last " + word, "nofirst " + word, "nolast " + word, "knot " + word,
                "ring a " + word, "hangs " + word + " a", "layers " + word)

    def test_two_blanks_and_blanks_at_an_end(self):
        for row in ("thing x", "thing x g", "tie a b", "group k a e", "house", "undo", "knot", "knot g", "layers"):
            self.refuse("NoRow", row + " ", " " + row, " " + row + " ", row + "  ")
            if " " in row:
                self.refuse("NoRow", row.replace(" ", "  "), row.replace(" ", "\t"), row.replace(" ", "  ", 1))

    def test_ahead_of_all_else(self):
        self.refuse(
            "NoRow", "tie nope A", "group a a a A", "drop nope nope", "knot nope nope", "ring nope", "hangs nope A")


class RefusedTest(DeskCase):
    def test_as_the_deeds_refuse(self):
        self.refuse("NoDeed", "group k a a", "group a a a", "group k nope a nope")
        self.refuse("Twice", "thing a", "thing a nope", "tie a c", "wait e b", "group a e", "first a", "first g",
                    "last g", "last b")
        self.refuse("NoUnit", "thing x nope", "tie a nope", "wait nope a", "untie a nope", "drop nope", "open nope",
                    "first nope", "nofirst nope", "group k nope", "last nope", "nolast nope", field="nope")
        self.refuse("NoUnit", "thing x c", "open c", field="c")
        self.refuse("Within", "tie a a", "wait g c", "tie c h")
        self.refuse("NoTie", "untie b a", "untie a a", "untie g c")
        self.refuse("Full", "drop g", "drop h")
        self.refuse("Apart", "group k a b", "group k g h")
        self.refuse("NoWant", "nofirst e", "nolast a", "nofirst b", "nolast g")
        self.refuse("Ring", "tie e a", field=[("tie", "e", "a"), ("first", "a", "e")])

    def test_wants_and_groups_that_close_a_ring(self):
        self.desk = told_desk(["thing a", "thing b", "thing c", "tie a b", "tie b c"])
        self.refuse("Ring", "first b", field=[("first", "b", "a"), ("tie", "a", "b")])
        self.refuse("Ring", "last b", field=[("last", "c", "b"), ("tie", "b", "c")])
        self.refuse("Ring", "group k a c", field=[("tie", "a", "b"), ("tie", "b", "c")])

    def test_too_many(self):
        names = many_names(60)
        self.desk = told_desk(["thing " + name for name in names])
        self.refuse("TooMany", "thing new", "group new aa")

    def test_rows_that_ask(self):
        self.refuse("NoUnit", "knot nope", "layers nope", "ring nope a", "ring a nope", "ring nope nope",
                    "hangs nope a", "hangs c nope", "hangs nope nope", field="nope")
        self.refuse("NoUnit", "knot c", "layers c", field="c")
        self.refuse("NoUnit", "ring x y", "hangs x y", field="x")
        self.refuse("Within", "ring a a", "ring g c", "ring c g", "ring h c")
        self.refuse("Apart", "hangs a b", "hangs g b", "hangs c h", "hangs b c")

    def test_what_is_refused_changes_neither_undo_nor_redo(self):
        self.answer(("undo", "ok"))
        self.refuse("NoRow", "thing")
        self.refuse("Full", "drop g")
        self.refuse("Ring", "tie e a")
        self.answer(("redo", "ok"), ("house", TEXT), ("undo", "ok"), ("redo", "ok"))
        self.refuse("NoRedo", "redo")


if __name__ == "__main__":
    unittest.main()
