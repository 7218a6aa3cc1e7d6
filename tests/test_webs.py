import unittest

from orderkeep.errors import NoWeb
from orderkeep.webs import nexts, priors, web_of
from tests.samples import all_webs, forward_ties, many_names, strange_things


class WebsMadeTest(unittest.TestCase):
    def refuse(self, things, ties):
        with self.assertRaises(NoWeb) as caught:
            web_of(things, ties)
        self.assertEqual(caught.exception.__class__, NoWeb)

    def test_lists_and_tuples_alike(self):
        web = (("c", "a", "b"), (("a", "c"), ("c", "b")))
        for things in (["c", "a", "b"], ("c", "a", "b")):
            for ties in ([("a", "c"), ("c", "b")], (("a", "c"), ("c", "b"))):
                told = web_of(things, ties)
                self.assertEqual(told, web)
                self.assertEqual([part.__class__ for part in told], [tuple, tuple])

    def test_edges_that_are_webs(self):
        self.assertEqual(web_of([], []), ((), ()))
        self.assertEqual(web_of((), ()), ((), ()))
        self.assertEqual(web_of(["a"], []), (("a",), ()))
        self.assertEqual(web_of(["a"], [("a", "a")]), (("a",), (("a", "a"),)))
        both = [("a", "b"), ("b", "a")]
        self.assertEqual(web_of(["a", "b"], both), (("a", "b"), tuple(both)))
        self.assertEqual(web_of(["abcdefgh"], []), (("abcdefgh",), ()))

    def test_sixty_things_and_no_more(self):
        names = many_names(61)
        self.assertEqual(web_of(names[:60], [])[0], tuple(names[:60]))
        self.refuse(names, [])
        self.refuse(tuple(names), ())
        self.refuse(many_names(500), [])

    def test_four_hundred_ties_and_no_more(self):
        names = many_names(60)
        ties = forward_ties(names, 401)
        self.assertEqual(web_of(names, ties[:400])[1], tuple(ties[:400]))
        self.refuse(names, ties)
        self.refuse(names, tuple(ties))
        self.refuse(names, forward_ties(names, 1000))

    def test_nothing_twice(self):
        self.refuse(["a", "b", "a"], [])
        self.refuse(("a", "a"), ())
        self.refuse(["a", "b"], [("a", "b"), ("b", "a"), ("a", "b")])
        self.refuse(["a"], (("a", "a"), ("a", "a")))

    def test_ties_of_another_form(self):
        for tie in [
            (), ("a",), ("a", "b", "a"), ["a", "b"], [], "ab", "a", ["a"], {"a": "b"}, ("a", ["b"]), (["a"], "b"),
            ("a", None), (None, "b"), ("a", 1), (True, "b"), ("a", "c"), ("c", "a"), ("a", ""), ("a", "A"), ("a ", "b"),
            ("a", ("b",)), ({}, {}), 0, 1,
        ] + strange_things():
            self.refuse(["a", "b"], [tie])
            self.refuse(["a", "b"], (("a", "b"), tie))

    def test_a_tie_of_what_is_no_thing(self):
        self.refuse([], [("a", "b")])
        self.refuse(["a"], [("a", "b")])
        self.refuse(["b"], [("a", "b")])

    def test_things_that_are_no_names(self):
        for thing in ["", "A", "abcdefghi", "a b", "a\n", "a1", 0, 1, [], (), ["a"]] + strange_things():
            self.refuse([thing], [])
            self.refuse(("a", thing), [])

    def test_other_kinds_in_the_place_of_things_and_ties(self):
        for thing in ["", "a", "ab", 0, 1, None, True, False, {}, {"a": "b"}, {"a"}, 1.5, iter(["a"]), range(0)]:
            self.refuse(thing, [])
            self.refuse(["a", "b"], thing)
            self.refuse(thing, thing)

    def test_strange_things_in_all_places(self):
        for thing in strange_things():
            self.refuse(thing, [])
            self.refuse(["a", "b"], thing)


class WebsOwnTest(unittest.TestCase):
    def test_what_is_handed_in_stays_as_it_was(self):
        things = ["b", "a"]
        ties = [("a", "b"), ("b", "b")]
        web = web_of(things, ties)
        self.assertEqual((things, ties), (["b", "a"], [("a", "b"), ("b", "b")]))
        things.append("c")
        ties.pop()
        self.assertEqual(web, (("b", "a"), (("a", "b"), ("b", "b"))))

    def test_a_refusal_changes_nothing(self):
        things = ["b", "a"]
        ties = [("a", "b"), ["b", "b"]]
        with self.assertRaises(NoWeb):
            web_of(things, ties)
        self.assertEqual((things, ties), (["b", "a"], [("a", "b"), ["b", "b"]]))

    def test_a_told_list_changed_changes_no_later_answer(self):
        web = web_of(["b", "a", "c"], [("a", "c"), ("a", "b")])
        for ask, one in ((nexts, "a"), (priors, "b"), (nexts, "c")):
            first = ask(web, one)
            kept = list(first)
            first.append("z")
            first.reverse()
            self.assertEqual(ask(web, one), kept)


class NeighboursTest(unittest.TestCase):
    def test_by_places_however_the_ties_stand(self):
        things = ["d", "a", "c", "b"]
        ties = [("a", "b"), ("a", "c"), ("a", "d"), ("c", "d"), ("b", "d")]
        for stand in (ties, ties[::-1], ties[2:] + ties[:2]):
            web = web_of(things, stand)
            self.assertEqual(nexts(web, "a"), ["d", "c", "b"])
            self.assertEqual(priors(web, "d"), ["a", "c", "b"])
            self.assertEqual(nexts(web, "d"), [])
            self.assertEqual(priors(web, "a"), [])

    def test_loops_and_both_directions(self):
        web = web_of(["b", "a"], [("a", "a"), ("a", "b"), ("b", "a")])
        self.assertEqual(nexts(web, "a"), ["b", "a"])
        self.assertEqual(priors(web, "a"), ["b", "a"])
        self.assertEqual(nexts(web, "b"), ["a"])
        self.assertEqual(priors(web, "b"), ["a"])

    def test_all_webs_of_three_things(self):
        for web in all_webs(["c", "a", "b"], True):
            for one in web[0]:
                self.assertEqual(nexts(web, one), [other for other in web[0] if (one, other) in web[1]])
                self.assertEqual(priors(web, one), [other for other in web[0] if (other, one) in web[1]])

    def test_a_great_web(self):
        names = many_names(60)[::-1]
        web = web_of(names, forward_ties(names, 400)[::-1])
        self.assertEqual(nexts(web, names[0]), names[1:])
        self.assertEqual(priors(web, names[1]), names[:1])


if __name__ == "__main__":
    unittest.main()
