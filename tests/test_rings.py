import unittest

from orderkeep.reach import way
from orderkeep.rings import ring_by, ring_of
from orderkeep.webs import web_of
from tests.samples import all_webs, forward_ties, many_names


def is_ring(web, ring):
    pairs = zip(ring, ring[1:] + ring[:1])
    return len(ring) > 0 and len(set(ring)) == len(ring) and all(pair in web[1] for pair in pairs)


def has_ring(web):
    """Whether a thing comes back to itself, by taking away, again and again, things without priors."""
    left = list(web[0])
    while True:
        free = [one for one in left if not any((other, one) in web[1] for other in left)]
        if not free:
            return len(left) > 0
        left = [one for one in left if one not in free]


class RingByTest(unittest.TestCase):
    def test_by_two_things_tied_or_not(self):
        web = web_of(["c", "b", "a"], [("a", "b"), ("b", "c")])
        self.assertEqual(ring_by(web, "c", "a"), ["c", "a", "b"])
        self.assertEqual(ring_by(web, "b", "a"), ["b", "a"])
        self.assertIsNone(ring_by(web, "a", "b"))
        self.assertIsNone(ring_by(web, "a", "c"))
        tied = web_of(["c", "b", "a"], [("a", "b"), ("b", "c"), ("c", "a")])
        self.assertEqual(ring_by(tied, "c", "a"), ["c", "a", "b"])
        self.assertEqual(ring_by(tied, "a", "b"), ["a", "b", "c"])
        self.assertEqual(ring_by(tied, "a", "c"), ["a", "c"])

    def test_of_a_thing_and_itself(self):
        for ties in ([], [("a", "a")], [("a", "b"), ("b", "a")]):
            self.assertEqual(ring_by(web_of(["b", "a"], ties), "a", "a"), ["a"])

    def test_all_webs_of_three_things(self):
        for web in all_webs(["c", "a", "b"], True):
            for one in web[0]:
                for other in web[0]:
                    back = way(web, other, one)
                    told = ring_by(web, one, other)
                    self.assertEqual(told, None if back is None else [one] + back[:-1])
                    if told is not None:
                        self.assertTrue(is_ring((web[0], web[1] + ((one, other),)), told))


class RingOfTest(unittest.TestCase):
    def check(self, web):
        rings = [ring_by(web, one, other) for one, other in web[1]]
        rings = [ring for ring in rings if ring is not None]
        self.assertEqual(ring_of(web), rings[0] if rings else None)
        self.assertEqual(ring_of(web) is not None, has_ring(web))
        if rings:
            self.assertTrue(is_ring(web, ring_of(web)))

    def test_all_webs_of_three_things(self):
        for web in all_webs(["c", "a", "b"], True):
            self.check(web)
            self.check((web[0], web[1][::-1]))

    def test_all_webs_of_four_things(self):
        for web in all_webs(["b", "d", "a", "c"], False):
            self.check((web[0], web[1][::-1]))

    def test_by_the_first_tie_that_has_one(self):
        ties = [("a", "b"), ("c", "d"), ("d", "c"), ("e", "e")]
        things = ["e", "d", "c", "b", "a"]
        self.assertEqual(ring_of(web_of(things, ties)), ["c", "d"])
        self.assertEqual(ring_of(web_of(things, ties[::-1])), ["e"])
        self.assertEqual(ring_of(web_of(things, [ties[2], ties[1]])), ["d", "c"])

    def test_loops_and_none(self):
        self.assertEqual(ring_of(web_of(["a"], [("a", "a")])), ["a"])
        self.assertIsNone(ring_of(web_of(["a"], [])))
        self.assertIsNone(ring_of(web_of([], [])))
        self.assertIsNone(ring_of(web_of(["a", "b"], [("b", "a")])))

    def test_great_webs(self):
        names = many_names(60)
        self.assertIsNone(ring_of(web_of(names, forward_ties(names, 400))))
        line = list(zip(names, names[1:]))
        self.assertEqual(ring_of(web_of(names, line + [(names[59], names[0])])), names)
        back = web_of(names, forward_ties(names, 399) + [(names[59], names[58])])
        self.assertEqual(ring_of(back), [names[58], names[59]])

    def test_own_lists(self):
        web = web_of(["a", "b"], [("a", "b"), ("b", "a")])
        for ask in (lambda: ring_of(web), lambda: ring_by(web, "a", "b")):
            ask().append("z")
            self.assertEqual(ask(), ["a", "b"])


if __name__ == "__main__":
    unittest.main()
