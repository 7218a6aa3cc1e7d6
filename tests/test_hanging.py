import unittest
from itertools import permutations, product

from orderkeep.hanging import hangs, shows_hanging
from orderkeep.reach import behinds, way
from orderkeep.webs import web_of
from tests.samples import Odd, all_webs, forward_ties, many_names, strange_things

LINE = web_of(["d", "c", "b", "a"], [("a", "b"), ("b", "c"), ("a", "c"), ("c", "b"), ("d", "d")])


def is_plain_yes(web, one, other, some):
    if one == other:
        return some == [one]
    return (len(some) > 0 and some[0] == one and some[-1] == other
            and all(pair in web[1] for pair in zip(some, some[1:])))


def is_plain_no(web, one, other, some):
    return (len(set(some)) == len(some) and one in some and other not in some
            and all(end in some for start, end in web[1] if start in some))


class HangsTest(unittest.TestCase):
    def test_yes_and_no(self):
        self.assertEqual(hangs(LINE, "a", "c"), ("yes", ["a", "c"]))
        self.assertEqual(hangs(LINE, "c", "a"), ("no", ["c", "b"]))
        self.assertEqual(hangs(LINE, "a", "d"), ("no", ["c", "b", "a"]))
        self.assertEqual(hangs(LINE, "a", "a"), ("yes", ["a"]))
        self.assertEqual(hangs(LINE, "d", "d"), ("yes", ["d"]))

    def test_all_webs_of_three_things(self):
        for web in all_webs(["c", "a", "b"], True):
            for one, other in product(web[0], repeat=2):
                found = way(web, one, other)
                told = ("yes", found) if found is not None else ("no", behinds(web, one))
                self.assertEqual(hangs(web, one, other), told)
                self.assertIs(shows_hanging(web, one, other, told), True)

    def test_own_lists(self):
        hangs(LINE, "a", "c")[1].clear()
        hangs(LINE, "c", "a")[1].clear()
        self.assertEqual(hangs(LINE, "a", "c"), ("yes", ["a", "c"]))
        self.assertEqual(hangs(LINE, "c", "a"), ("no", ["c", "b"]))


class ShowsTest(unittest.TestCase):
    def test_each_list_of_at_most_four_things_by_the_words(self):
        lists = [list(some) for count in range(5) for some in product("cab", repeat=count)]
        webs = [web for k, web in enumerate(all_webs(["c", "a", "b"], True)) if k % 7 == 0]
        for web in webs:
            for one, other in product(web[0], repeat=2):
                for some in lists:
                    yes = shows_hanging(web, one, other, ("yes", some))
                    no = shows_hanging(web, one, other, ("no", some))
                    self.assertIs(yes, is_plain_yes(web, one, other, some), (web, one, other, some))
                    self.assertIs(no, is_plain_no(web, one, other, some), (web, one, other, some))

    def test_never_both(self):
        lists = [list(some) for count in range(4) for some in permutations("cab", count)]
        for web in all_webs(["c", "a", "b"], False):
            for one, other in product(web[0], repeat=2):
                shown = {word for word in ("yes", "no") for some in lists
                         if shows_hanging(web, one, other, (word, some))}
                self.assertEqual(shown, {hangs(web, one, other)[0]})

    def test_longer_ways(self):
        for some in (["a", "b", "c"], ["a", "b", "c", "b", "c"], ["a", "c", "b", "c"], ["a"] + ["b", "c"] * 700):
            self.assertIs(shows_hanging(LINE, "a", "c", ("yes", some)), True, some)
        for some in ([], ["a"], ["c"], ["a", "b"], ["b", "c"], ["a", "d", "c"], ["a", "a", "c"], ["a", "c", "c"],
                     ["c", "a"], ["a", "x", "c"]):
            self.assertIs(shows_hanging(LINE, "a", "c", ("yes", some)), False, some)

    def test_a_thing_and_itself(self):
        self.assertIs(shows_hanging(LINE, "d", "d", ("yes", ["d"])), True)
        for some in ([], ["d", "d"], ["a"], ["d", "d", "d"]):
            self.assertIs(shows_hanging(LINE, "d", "d", ("yes", some)), False, some)
        self.assertIs(shows_hanging(LINE, "b", "b", ("yes", ["b", "c", "b"])), False)
        self.assertIs(shows_hanging(LINE, "b", "b", ("no", ["b", "c"])), False)
        self.assertIs(shows_hanging(LINE, "b", "b", ("no", ["c"])), False)

    def test_shut_lists_in_any_order_and_greater(self):
        for some in (["c", "b"], ["b", "c"], ["d", "b", "c"], ["c", "d", "b"]):
            self.assertIs(shows_hanging(LINE, "c", "a", ("no", some)), True, some)
        for some in ([], ["c"], ["b"], ["d"], ["b", "c", "a"], ["b", "c", "b"], ["c", "b", "x"], ["c", "b", ""]):
            self.assertIs(shows_hanging(LINE, "c", "a", ("no", some)), False, some)

    def test_other_forms(self):
        good = ["c", "b"]
        for told in [
            ("no", tuple(good)), ["no", good], ("no",), ("no", good, good), (), ("yes", good), ("No", good), ("", good),
            ("no ", good), (None, good), (False, good), (0, good), (good, "no"), ("no", "cb"), ("no", None), ("no", 1),
            ("no", {"c": "b", "b": "c"}), ("no", {"c", "b"}), {"no": good}, "no", "", 0, 1, [], good, (["no"], good),
            ("no", ["c", "b", None]), ("no", ["c", "b", ["d"]]), ("no", ["c", "b", ("d",)]), ("no", ["c", "b", 0]),
            ("no", ["c", "b", True]), ("no", ["c", "b", {}]), ("no", [good]), ({}, {}), ("no", ["c", "b", Odd()]),
        ] + strange_things():
            self.assertIs(shows_hanging(LINE, "c", "a", told), False, repr(told))
        for thing in strange_things():
            for word in ("yes", "no", thing):
                for told in ((word, thing), (word, [thing]), (word, ["a", thing]), (word, ["a", thing, "c"]),
                             (word, ["a", "c", thing]), (thing, ["a", "c"])):
                    self.assertIs(shows_hanging(LINE, "a", "c", told), False, repr(told))

    def test_a_tuple_is_no_way(self):
        self.assertIs(shows_hanging(LINE, "a", "c", ("yes", ["a", "c"])), True)
        for told in (("yes", ("a", "c")), ["yes", ["a", "c"]], ("no", ["a", "c"]), ("yes", "ac")):
            self.assertIs(shows_hanging(LINE, "a", "c", told), False, told)

    def test_great_webs(self):
        names = many_names(60)
        web = web_of(names, forward_ties(names, 400))
        self.assertIs(shows_hanging(web, names[0], names[59], ("yes", names)), True)
        self.assertIs(shows_hanging(web, names[59], names[0], ("no", names[:0:-1])), True)
        self.assertIs(shows_hanging(web, names[59], names[0], ("no", names[:2:-1] + names[1:2])), False)

    def test_what_is_handed_in_stays(self):
        told = ("no", ["b", "d", "c"])
        shows_hanging(LINE, "c", "a", told)
        self.assertEqual(told, ("no", ["b", "d", "c"]))


if __name__ == "__main__":
    unittest.main()
