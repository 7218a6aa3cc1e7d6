import unittest

from orderkeep.houses import EMPTY, house_of
from orderkeep.orders import is_order
from orderkeep.views import view
from orderkeep.webs import web_of
from tests.houses_by_words import made_houses, plain_view
from tests.samples import deep_knots, forward_ties, many_names

# s and u are wanted at the top; g and h hold what most ties are of
HOUSE = house_of(
    [("", ("s", "g", "t", "h", "u")), ("h", ("c", "d")), ("g", ("a", "k", "b")), ("k", ("x", "y"))],
    [("x", "c"), ("s", "t"), ("a", "d"), ("y", "b"), ("t", "h"), ("x", "y"), ("k", "d")],
    [("c", "y")],
    [("last", "u"), ("first", "a"), ("first", "s")],
)


class ViewTest(unittest.TestCase):
    def test_ties_each_once_where_they_come_first(self):
        self.assertEqual(view(HOUSE, ""), (("s", "g", "t", "h", "u"), (
            ("g", "h"), ("s", "t"), ("t", "h"),
            ("s", "g"), ("s", "h"), ("s", "u"),
            ("g", "u"), ("t", "u"), ("h", "u"))))

    def test_ties_that_part_at_the_knot_alone(self):
        self.assertEqual(view(HOUSE, "g"), (("a", "k", "b"), (("k", "b"), ("a", "k"), ("a", "b"))))
        self.assertEqual(view(HOUSE, "k"), (("x", "y"), (("x", "y"),)))
        self.assertEqual(view(HOUSE, "h"), (("c", "d"), ()))

    def test_the_waiting_ones_are_no_ties(self):
        self.assertNotIn(("h", "g"), view(HOUSE, "")[1])

    def test_wanted_first_goes_ahead_of_wanted_last_however_the_wants_stand(self):
        for wants in ([("first", "a"), ("last", "d")], [("last", "d"), ("first", "a")]):
            house = house_of([("", ("a", "c", "b", "d"))], [("c", "d")], [], wants)
            self.assertEqual(view(house, "")[1], (
                ("c", "d"), ("a", "c"), ("a", "b"), ("a", "d"), ("b", "d")))

    def test_wanted_last_alone(self):
        house = house_of([("", ("b", "a", "c"))], [("b", "c")], [], [("last", "c")])
        self.assertEqual(view(house, ""), (("b", "a", "c"), (("b", "c"), ("a", "c"))))

    def test_an_only_child_that_is_wanted(self):
        for word in ("first", "last"):
            house = house_of([("", ("g",)), ("g", ("a",))], [], [], [(word, "a"), (word, "g")])
            self.assertEqual(view(house, ""), (("g",), ()))
            self.assertEqual(view(house, "g"), (("a",), ()))

    def test_a_knot_without_children(self):
        self.assertEqual(view(EMPTY, ""), ((), ()))
        house = house_of([("", ("g", "a")), ("g", ())], [("g", "a")], [], [])
        self.assertEqual(view(house, "g"), ((), ()))
        self.assertEqual(view(house, ""), (("g", "a"), (("g", "a"),)))

    def test_ties_of_units_deep_within(self):
        ties = [("xa", "yg"), ("xg", "yg"), ("gf", "ya"), ("xc", "yf"), ("bare", "xf")]
        house = house_of(deep_knots(), ties, [], [])
        self.assertEqual(view(house, "")[1], (("xa", "ga"), ("ga", "ya"), ("bare", "ga")))
        self.assertEqual(view(house, "gf")[1], (("xg", "yg"),))
        self.assertEqual(view(house, "gb")[1], (("xc", "gc"),))
        self.assertEqual(view(house, "ga")[1], ())

    def test_made_houses_by_the_words(self):
        for house in made_houses(150):
            for name, row in house[0]:
                told = view(house, name)
                self.assertEqual(told, plain_view(house, name), (house, name))
                self.assertEqual(web_of(*told), told)
                self.assertIs(is_order(told, list(row)), True)

    def test_a_view_at_the_bounds(self):
        names = many_names(60)
        ties = forward_ties(names, 200)
        wants = [("first", names[0]), ("last", names[59])]
        house = house_of([("", tuple(names))], ties, [], wants)
        told = view(house, "")
        self.assertEqual(told[1][:200], tuple(ties))
        self.assertEqual(told, plain_view(house, ""))

    def test_what_is_told_hangs_on_nothing_handed_in(self):
        knots, ties, wants = [("", ("a", "b", "c"))], [("a", "b")], [("first", "a")]
        house = house_of(knots, ties, [], wants)
        for part in (knots, ties, wants):
            part.clear()
        self.assertEqual(view(house, ""), (("a", "b", "c"), (("a", "b"), ("a", "c"))))


if __name__ == "__main__":
    unittest.main()
