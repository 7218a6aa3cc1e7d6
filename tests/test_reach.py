import unittest

from orderkeep.reach import aheads, behinds, way
from orderkeep.webs import web_of
from tests.samples import all_webs, forward_ties, many_names, plain_way


class ReachTest(unittest.TestCase):
    def check(self, web):
        for one in web[0]:
            reached = [other for other in web[0] if plain_way(web, one, other) is not None]
            reaching = [other for other in web[0] if plain_way(web, other, one) is not None]
            self.assertEqual(behinds(web, one), reached, (web, one))
            self.assertEqual(aheads(web, one), reaching, (web, one))
            for other in web[0]:
                self.assertEqual(way(web, one, other), plain_way(web, one, other), (web, one, other))

    def test_all_webs_of_three_things_with_loops(self):
        for web in all_webs(["c", "a", "b"], True):
            self.check(web)

    def test_all_webs_of_four_things(self):
        for web in all_webs(["b", "d", "a", "c"], False):
            self.check(web)

    def test_by_places_and_itself_among_both(self):
        web = web_of(["d", "c", "b", "a"], [("b", "a"), ("c", "b"), ("a", "d")])
        self.assertEqual(behinds(web, "b"), ["d", "b", "a"])
        self.assertEqual(aheads(web, "b"), ["c", "b"])
        self.assertEqual(behinds(web, "d"), ["d"])
        self.assertEqual(aheads(web, "c"), ["c"])

    def test_rings_and_loops(self):
        web = web_of(["c", "b", "a"], [("a", "b"), ("b", "a"), ("c", "c")])
        self.assertEqual(behinds(web, "a"), ["b", "a"])
        self.assertEqual(aheads(web, "a"), ["b", "a"])
        self.assertEqual(behinds(web, "c"), ["c"])
        self.assertEqual(way(web, "a", "a"), ["a"])
        self.assertEqual(way(web, "c", "c"), ["c"])
        self.assertIsNone(way(web, "a", "c"))

    def test_the_first_way_by_places_not_by_names(self):
        web = web_of(["s", "z", "a", "t"], [("s", "a"), ("a", "t"), ("s", "z"), ("z", "t")])
        self.assertEqual(way(web, "s", "t"), ["s", "z", "t"])
        web = web_of(["s", "a", "z", "t"], [("s", "z"), ("z", "t"), ("s", "a"), ("a", "t")])
        self.assertEqual(way(web, "s", "t"), ["s", "a", "t"])

    def test_the_first_thing_counts_ahead_of_the_last(self):
        ties = [("s", "q"), ("s", "p"), ("p", "n"), ("q", "m"), ("n", "t"), ("m", "t")]
        web = web_of(["m", "n", "p", "q", "s", "t"], ties)
        self.assertEqual(way(web, "s", "t"), ["s", "p", "n", "t"])

    def test_fewest_things_go_ahead_of_places(self):
        web = web_of(["a", "b", "s", "t", "z"], [("s", "a"), ("a", "b"), ("b", "t"), ("s", "z"), ("z", "t")])
        self.assertEqual(way(web, "s", "t"), ["s", "z", "t"])

    def test_a_dead_end_by_the_first_place_is_passed_by(self):
        web = web_of(["a", "s", "b", "t"], [("s", "a"), ("s", "b"), ("b", "t")])
        self.assertEqual(way(web, "s", "t"), ["s", "b", "t"])

    def test_great_webs(self):
        names = many_names(60)
        line = web_of(names[::-1], list(zip(names, names[1:])))
        self.assertEqual(way(line, names[0], names[-1]), names)
        self.assertIsNone(way(line, names[-1], names[0]))
        self.assertEqual(behinds(line, names[0]), names[::-1])
        self.assertEqual(aheads(line, names[0]), [names[0]])
        full = web_of(names, forward_ties(names, 399) + [(names[-1], names[0])])
        self.assertEqual(behinds(full, names[7]), names)
        self.assertEqual(aheads(full, names[7]), names)
        self.assertEqual(way(full, names[59], names[58]), [names[59], names[0], names[58]])

    def test_own_lists(self):
        web = web_of(["a", "b", "c"], [("a", "b"), ("b", "c")])
        for ask in (lambda: behinds(web, "a"), lambda: aheads(web, "c"), lambda: way(web, "a", "c")):
            first = ask()
            first.clear()
            self.assertEqual(ask(), ["a", "b", "c"])
        self.assertEqual(web, (("a", "b", "c"), (("a", "b"), ("b", "c"))))


if __name__ == "__main__":
    unittest.main()
