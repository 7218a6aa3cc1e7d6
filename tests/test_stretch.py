import unittest
from itertools import product

from orderkeep.errors import Ring
from orderkeep.reach import behinds
from orderkeep.rings import ring_by
from orderkeep.stretch import stretch
from orderkeep.webs import web_of
from tests.samples import forward_ties, many_names, plain_orders, webs_without_ring

WEB = web_of(["g", "f", "e", "d", "c", "b", "a"], [("b", "d"), ("a", "b"), ("c", "f"), ("e", "f"), ("d", "g")])
ORDER = ["a", "b", "c", "d", "e", "f", "g"]


def plain_stretch(web, order, one, other):
    """The stretch by the words; the ring where it is refused."""
    if order.index(one) < order.index(other):
        return ([], [])
    between = order[order.index(other):order.index(one) + 1]
    forward = [thing for thing in between if thing in behinds(web, other)]
    back = [thing for thing in between if one in behinds(web, thing)]
    if one in forward:
        return ring_by(web, one, other)
    return (back, forward)


def each_tie_laid(names, share):
    """Webs of these names, their orders, and two things of them."""
    for number, web in enumerate(webs_without_ring(names)):
        if number % share == 0:
            for order in plain_orders(web):
                for one, other in product(web[0], repeat=2):
                    yield web, order, one, other


class StretchTest(unittest.TestCase):
    def test_back_and_forward_as_they_stood(self):
        self.assertEqual(stretch(WEB, ORDER, "f", "b"), (["c", "e", "f"], ["b", "d"]))
        self.assertEqual(stretch(WEB, ORDER, "g", "c"), (["d", "g"], ["c", "f"]))
        self.assertEqual(stretch(WEB, ORDER, "g", "e"), (["g"], ["e", "f"]))
        self.assertEqual(stretch(WEB, ORDER, "c", "b"), (["c"], ["b"]))
        self.assertEqual(stretch(WEB, ORDER, "e", "a"), (["e"], ["a", "b", "d"]))

    def test_nothing_moves_where_one_stands_ahead(self):
        for k, one in enumerate(ORDER):
            for other in ORDER[k + 1:]:
                self.assertEqual(stretch(WEB, ORDER, one, other), ([], []))

    def test_a_tie_that_the_web_has_already(self):
        for one, other in WEB[1]:
            self.assertEqual(stretch(WEB, ORDER, one, other), ([], []))

    def test_all_orders_of_webs_of_four_things(self):
        for web, order, one, other in each_tie_laid(["b", "d", "a", "c"], 3):
            by_words = plain_stretch(web, order, one, other)
            if isinstance(by_words, tuple):
                told = stretch(web, order, one, other)
                self.assertEqual(told, by_words, (web, order, one, other))
                self.assertEqual([part.__class__ for part in told], [list, list])
                self.assertEqual(set(told[0]) & set(told[1]), set())
            else:
                with self.assertRaises(Ring) as caught:
                    stretch(web, order, one, other)
                self.assertEqual(caught.exception.ring, by_words, (web, order, one, other))

    def test_the_ring_by_one_and_other(self):
        for one, other, ring in [
            ("d", "a", ["d", "a", "b"]), ("g", "a", ["g", "a", "b", "d"]), ("f", "c", ["f", "c"]),
            ("f", "e", ["f", "e"]),
        ]:
            for turn in range(2):
                with self.assertRaises(Ring) as caught:
                    stretch(WEB, ORDER, one, other)
                self.assertEqual(caught.exception.__class__, Ring)
                self.assertEqual(caught.exception.ring, ring)
                caught.exception.ring.clear()

    def test_one_is_other(self):
        for one in ORDER:
            with self.assertRaises(Ring) as caught:
                stretch(WEB, ORDER, one, one)
            self.assertEqual(caught.exception.ring, [one])

    def test_the_first_way_by_places_makes_the_ring(self):
        web = web_of(["s", "z", "a", "t"], [("s", "a"), ("a", "t"), ("s", "z"), ("z", "t")])
        for order in (["s", "a", "z", "t"], ["s", "z", "a", "t"]):
            with self.assertRaises(Ring) as caught:
                stretch(web, order, "t", "s")
            self.assertEqual(caught.exception.ring, ["t", "s", "z"])

    def test_great_webs(self):
        names = many_names(60)
        web = web_of(names, forward_ties(names, 400))
        with self.assertRaises(Ring) as caught:
            stretch(web, names, names[59], names[0])
        self.assertEqual(caught.exception.ring, ring_by(web, names[59], names[0]))
        ties = list(zip(names[:30], names[1:30])) + list(zip(names[30:], names[31:]))
        halves = web_of(names[::-1], ties)
        self.assertEqual(stretch(halves, names, names[59], names[0]), (names[30:], names[:30]))
        mixed = [name for pair in zip(names[:30], names[30:]) for name in pair]
        self.assertEqual(stretch(halves, mixed, names[40], names[5]), (names[35:41], names[5:11]))
        loose = web_of(names, [])
        self.assertEqual(stretch(loose, names, names[59], names[0]), ([names[59]], [names[0]]))

    def test_what_is_handed_in_stays_and_what_is_told_is_own(self):
        order = list(ORDER)
        told = stretch(WEB, order, "f", "b")
        self.assertEqual(order, ORDER)
        order.clear()
        self.assertEqual(told, (["c", "e", "f"], ["b", "d"]))
        told[0].clear()
        told[1].append("z")
        stretch(WEB, ORDER, "a", "b")[0].append("z")
        self.assertEqual(stretch(WEB, ORDER, "f", "b"), (["c", "e", "f"], ["b", "d"]))
        self.assertEqual(stretch(WEB, ORDER, "a", "b"), ([], []))


if __name__ == "__main__":
    unittest.main()
