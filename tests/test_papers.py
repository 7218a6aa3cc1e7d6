import copy
import unittest

from orderkeep import errors
from orderkeep.checker import led_to, lets_by
from orderkeep.deeds import behind
from orderkeep.houses import EMPTY, house_of
from orderkeep.papers import paper_of
from tests.deeds_by_words import Refused, all_deeds, plain_behind, plain_led
from tests.houses_by_words import made_houses
from tests.samples import forward_ties, many_names, strange_things
from tests.test_deeds import DEEDS, HOUSE, MANY, no_deeds, too_deep

ROW = house_of([("", ("a", "b", "c", "d", "e", "f"))], [("b", "d"), ("a", "b"), ("c", "f"), ("e", "f")], [], [])
# c and b wait for x, on which they hang by a
WAITS = house_of([("", ("x", "a", "b", "c"))], [("x", "a"), ("a", "b"), ("a", "c")], [("c", "x"), ("b", "x")], [])


class PapersCase(unittest.TestCase):
    def tell(self, house, deed, paper):
        told = paper_of(house, deed)
        self.assertEqual(told, paper, deed)
        self.assertIs(lets_by(house, deed, told), True, deed)


class ToldTest(PapersCase):
    def test_no_rows(self):
        self.tell(EMPTY, ("thing", "a", ""), [])
        self.tell(HOUSE, ("thing", "x", "g"), [])
        self.tell(HOUSE, ("untie", "e", "b"), [])
        self.tell(HOUSE, ("untie", "d", "b"), [])
        # where none waits there is nothing to go through
        self.tell(ROW, ("untie", "a", "b"), [])
        self.tell(ROW, ("drop", "a"), [])

    def test_of_a_tie_and_a_wait(self):
        moves = [("b", 1, 4), ("c", 2, 1), ("d", 3, 5), ("e", 4, 2), ("f", 5, 3)]
        for word in ("tie", "wait"):
            self.tell(ROW, (word, "f", "b"), [("lay", "f", "b", moves)])
            self.tell(ROW, (word, "a", "f"), [("lay", "a", "f", [])])
            self.tell(HOUSE, (word, "h", "b"), [("lay", "h", "b", [("b", 0, 1), ("h", 1, 0)])])
            # the moves are of children, the tie of what lies within them
            self.tell(HOUSE, (word, "c", "b"), [("lay", "c", "b", [("b", 0, 1), ("h", 1, 0)])])
            ring = [("tie", "d", "a"), ("tie", "a", "b"), ("tie", "b", "d")]
            self.tell(ROW, (word, "d", "a"), [("ring", "d", "a", ring)])
            self.tell(HOUSE, (word, "e", "a"), [("ring", "e", "a", [("tie", "e", "a"), ("first", "a", "e")])])

    def test_of_what_goes(self):
        lay, other = ("lay", "c", "x", [("x", 0, 3), ("a", 1, 0), ("c", 3, 1)]), ("lay", "b", "x", [])
        self.tell(WAITS, ("untie", "x", "a"), [lay, other])
        self.tell(WAITS, ("untie", "a", "b"), [
            ("ring", "c", "x", [("tie", "c", "x"), ("tie", "x", "a"), ("tie", "a", "c")]),
            ("lay", "b", "x", [("x", 0, 1), ("a", 1, 2), ("b", 2, 0)])])
        self.tell(WAITS, ("drop", "a"), [("lay", "c", "x", [("x", 0, 2), ("c", 2, 0)]), other])
        self.tell(WAITS, ("drop", "c"), [("ring", "b", "x", [("tie", "b", "x"), ("tie", "x", "a"), ("tie", "a", "b")])])
        self.tell(HOUSE, ("unwant", "first", "a"), [
            ("ring", "e", "b", [("tie", "e", "b"), ("tie", "g", "e")]),
            ("ring", "d", "b", [("tie", "d", "b"), ("tie", "b", "d")])])
        self.tell(HOUSE, ("open", "g"), [
            ("ring", "e", "b", [("tie", "e", "b"), ("last", "b", "e")]),
            ("ring", "d", "b", [("tie", "d", "b"), ("tie", "b", "d")])])

    def test_units_that_are_called_like_words(self):
        house = house_of([("", ("a", "first"))], [], [("first", "a")], [("first", "a")])
        lay = ("lay", "first", "a", [("a", 0, 1), ("first", 1, 0)])
        self.tell(house, ("unwant", "first", "a"), [lay])
        self.assertIs(lets_by(house, ("unwant", "first", "a"), []), False)
        self.tell(house, ("untie", "first", "a"), [])
        self.assertIs(lets_by(house, ("untie", "first", "a"), [lay]), False)

    def test_each_by_the_house_as_the_rows_ahead_left_it(self):
        row = ("d", "v", "p", "q", "c", "u")
        ties = [("d", "p"), ("v", "p"), ("p", "q"), ("q", "c"), ("q", "u"), ("v", "c"), ("d", "u")]
        house = house_of([("", row)], ties, [("c", "d"), ("u", "v")], [])
        moves = [("d", 0, 3), ("v", 1, 0), ("p", 2, 4), ("q", 3, 1), ("c", 4, 2)]
        ring = [("tie", "u", "v"), ("tie", "v", "c"), ("tie", "c", "d"), ("tie", "d", "u")]
        self.tell(house, ("untie", "p", "q"), [("lay", "c", "d", moves), ("ring", "u", "v", ring)])

    def test_of_a_want(self):
        self.tell(ROW, ("want", "first", "c"), [("place", ["c", "a", "b", "d", "e", "f"])])
        self.tell(ROW, ("want", "last", "d"), [("place", ["a", "b", "c", "e", "f", "d"])])
        self.tell(ROW, ("want", "last", "b"), [("bar", [("last", "d", "b"), ("tie", "b", "d")])])
        self.tell(ROW, ("want", "first", "f"), [("bar", [("first", "f", "c"), ("tie", "c", "f")])])

    def test_of_a_group(self):
        self.tell(ROW, ("group", "k", ["e", "b"]), [("place", ["a", "c", "k", "d", "f"])])
        self.tell(ROW, ("group", "k", ["d", "a"]), [("bar", [("tie", "a", "b"), ("tie", "b", "d")])])
        house = house_of([("", ("s", "a", "b"))], [], [("b", "s"), ("a", "s")], [("first", "s")])
        self.tell(house, ("group", "k", ["s", "a"]), [
            ("place", ["k", "b"]), ("lay", "b", "s", [("k", 0, 1), ("b", 1, 0)]),
            ("ring", "a", "s", [("tie", "a", "s"), ("first", "s", "a")])])


class RefusedTest(unittest.TestCase):
    def refuse(self, house, deed, name, field=None):
        with self.assertRaises(errors.OrderError, msg=repr(deed)[:80]) as caught:
            paper_of(house, deed)
        self.assertEqual(caught.exception.__class__, getattr(errors, name), repr(deed)[:80])
        self.assertEqual(getattr(caught.exception, "name", None), field)

    def test_as_the_deed_is(self):
        for deed, name, field in [
            (("thing", "a", ""), "Twice", None), (("thing", "x", "c"), "NoUnit", "c"),
            (("tie", "a", "y"), "NoUnit", "y"), (("wait", "g", "c"), "Within", None),
            (("tie", "a", "c"), "Twice", None), (("wait", "e", "b"), "Twice", None),
            (("untie", "b", "a"), "NoTie", None), (("drop", "h"), "Full", None), (("group", "a", ["e"]), "Twice", None),
            (("group", "k", ["a", "b"]), "Apart", None), (("group", "k", ["a", "x"]), "NoUnit", "x"),
            (("open", "c"), "NoUnit", "c"), (("want", "first", "g"), "Twice", None),
            (("unwant", "first", "b"), "NoWant", None), (("drop", "x"), "NoUnit", "x"),
        ]:
            self.refuse(HOUSE, deed, name, field)

    def test_too_many_ahead_of_its_ring(self):
        names = many_names(60)
        full = house_of([("", tuple(names))], forward_ties(names, 200), [], [])
        self.refuse(full, ("tie", names[1], names[0]), "TooMany")
        self.refuse(full, ("wait", names[1], names[0]), "TooMany")
        self.refuse(full, ("group", "new", [names[0], names[2]]), "TooMany")
        self.refuse(full, ("thing", "new", ""), "TooMany")

    def test_a_many_and_what_is_no_deed(self):
        for deed in MANY + no_deeds() + too_deep() + strange_things():
            self.refuse(HOUSE, deed, "NoDeed")
        for deed in DEEDS:
            self.refuse(HOUSE, ("many", [deed]), "NoDeed")


class ByTheWordsTest(unittest.TestCase):
    def test_let_by_and_led_to_the_house_behind(self):
        for house in made_houses(90):
            for deed in all_deeds(house):
                try:
                    by_words, ring = plain_behind(house, deed), None
                except Refused as refused:
                    if refused.told[0] != "Ring":
                        with self.assertRaises(errors.OrderError) as caught:
                            paper_of(house, deed)
                        self.assertEqual(caught.exception.__class__.__name__, refused.told[0])
                        continue
                    by_words, ring = house, refused.told[1]
                paper = paper_of(house, deed)
                self.assertIs(lets_by(house, deed, paper), True, (house, deed))
                self.assertEqual(led_to(house, deed, paper), by_words, (house, deed))
                self.assertEqual(plain_led(house, deed, paper), by_words, (house, deed))
                if ring is not None:
                    self.assertEqual((len(paper), paper[0][-1]), (1, ring))

    def test_at_the_bounds(self):
        names = many_names(60)
        line = list(zip(names, names[1:]))
        waiting = [(names[59], name) for name in names[:59]] + [(name, names[0]) for name in names[1:59]]
        house = house_of([("", tuple(names))], line, waiting, [])
        deed = ("untie", names[29], names[30])
        paper = paper_of(house, deed)
        self.assertEqual(len(paper), len(waiting))
        self.assertIs(lets_by(house, deed, paper), True)
        self.assertEqual(led_to(house, deed, paper), behind(house, deed))
        self.assertEqual([row[0] for row in paper].count("lay"), 30 + 29)


class OwnTest(unittest.TestCase):
    def test_what_is_handed_in_stays(self):
        deed = ("group", "k", ["e", "b"])
        paper_of(ROW, deed)
        self.assertEqual(deed, ("group", "k", ["e", "b"]))

    def test_a_told_list_changed_changes_no_later_answer(self):
        for house, deed in [
            (ROW, ("tie", "f", "b")), (ROW, ("tie", "d", "a")), (WAITS, ("untie", "x", "a")),
            (ROW, ("want", "last", "d")), (ROW, ("group", "k", ["e", "b"])), (ROW, ("group", "k", ["d", "a"])),
            (ROW, ("thing", "x", "")),
        ]:
            kept = copy.deepcopy(paper_of(house, deed))
            told = paper_of(house, deed)
            for row in told:
                row[-1].append("z")
                row[-1].reverse()
            told.append("z")
            self.assertEqual(paper_of(house, deed), kept)


if __name__ == "__main__":
    unittest.main()
