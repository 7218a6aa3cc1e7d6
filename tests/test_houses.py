import unittest
from itertools import permutations

from orderkeep.errors import NoHouse
from orderkeep.houses import EMPTY, house_of, is_house, whole_order
from tests.houses_by_words import is_good_by_words, lies_within, made_houses
from tests.samples import deep_knots, forward_ties, many_names, strange_things

KNOTS = (("", ("a", "g", "e")), ("g", ("b", "h", "d")), ("h", ("c",)))
TIES = (("a", "c"), ("b", "d"), ("g", "e"))
WAITING = (("e", "b"), ("d", "b"))
WANTS = (("first", "a"), ("last", "e"), ("last", "d"), ("first", "c"))
HOUSE = (KNOTS, TIES, WAITING, WANTS)
OTHER_KINDS = ["", "a", "ab", "abcd", 0, 1, 4, None, True, False, {}, {"": ("a",)}, {"a": "b"}, {"a"}, 1.5, range(0)]


class HousesCase(unittest.TestCase):
    def take(self, *parts):
        """A good house, of lists and of tuples."""
        house = tuple(tuple(part) for part in parts)
        for told in (house_of(*parts), house_of(*house), house_of(*[list(part) for part in parts])):
            self.assertEqual(told, house)
            self.assertEqual([part.__class__ for part in told], [tuple] * 4)
        self.assertIs(is_house(house), True)

    def refuse_parts(self, *parts):
        with self.assertRaises(NoHouse, msg=repr(parts)) as caught:
            house_of(*parts)
        self.assertEqual(caught.exception.__class__, NoHouse)
        self.assertIs(is_house(tuple(parts)), False, repr(parts))

    def refuse(self, knots=KNOTS, ties=TIES, waiting=WAITING, wants=WANTS):
        """No good house, of lists and of tuples where the parts are such."""
        parts = (knots, ties, waiting, wants)
        self.refuse_parts(*parts)
        self.refuse_parts(*[list(part) if isinstance(part, tuple) else part for part in parts])
        self.refuse_parts(*[tuple(part) if isinstance(part, list) else part for part in parts])

    def refuse_knots(self, *knots):
        self.refuse(knots, (), (), ())


class MadeTest(HousesCase):
    def test_of_lists_and_of_tuples(self):
        self.take(*HOUSE)
        self.assertEqual(house_of(list(KNOTS), TIES, list(WAITING), WANTS), HOUSE)

    def test_the_house_without_units(self):
        self.assertEqual(EMPTY, ((("", ()),), (), (), ()))
        self.take(*EMPTY)
        self.assertEqual(house_of([("", ())], [], [], []), EMPTY)

    def test_edges_that_are_houses(self):
        self.take([("", ("g",)), ("g", ())], [], [], [])
        self.take([("", ("g", "a", "h")), ("h", ("b",)), ("g", ())], [("g", "b"), ("g", "h")], [], [])
        self.take([("", ("abcdefgh",))], [], [], [("last", "abcdefgh")])
        self.take([("", ("top", "first", "last", "tie"))], [("first", "last")], [("last", "first")], [("last", "tie")])
        self.take([("", ("a", "b"))], [("a", "b")], [("b", "a")], [])
        self.take([("", ("g", "a")), ("g", ("b",))], [], [], [("first", "g"), ("first", "b"), ("last", "a")])

    def test_made_houses(self):
        for house in made_houses(150):
            self.take(*house)

    def test_sixty_units(self):
        names = many_names(60)
        self.take([("", tuple(names))], [], [], [])
        self.take([("", tuple(names[:6]))] + [(name, tuple(names[k:k + 9])) for name, k in zip(names, range(6, 60, 9))],
                  [], [], [])
        self.take([("", tuple(names))] + [(name, ()) for name in names], [], [], [])

    def test_two_hundred_ties(self):
        names = many_names(60)
        ties = forward_ties(names, 200)
        self.take([("", tuple(names))], ties, [], [("first", names[0]), ("last", names[59])])
        back = [(other, one) for one, other in ties]
        self.take([("", tuple(names))], ties[:100], back[:100], [])
        self.take([("", tuple(names))], ties[:59], back[:141], [])

    def test_six_groups_within_one_another(self):
        ties = [("xa", "yg"), ("xg", "yg"), ("gf", "ya"), ("xc", "yf"), ("bare", "xf")]
        self.take(deep_knots(), ties, [("yg", "xg"), ("ya", "xa"), ("yg", "bare")], [("first", "xg"), ("last", "yg")])


class NoKnotsTest(HousesCase):
    def test_no_top(self):
        self.refuse_knots()
        self.refuse_knots(("a", ()))
        self.refuse_knots(("g", ("a",)))
        self.refuse_knots(("g", ("h",)), ("h", ("g",)))
        self.refuse((), (), (), ())

    def test_the_top_not_first_or_twice(self):
        self.refuse_knots(("g", ("a",)), ("", ("g",)))
        self.refuse_knots(("", ("g",)), ("", ("a",)), ("g", ()))
        self.refuse_knots(("", ()), ("", ()))
        self.refuse(KNOTS[1:] + KNOTS[:1])

    def test_two_knots_of_one_name(self):
        self.refuse_knots(("", ("g",)), ("g", ("a",)), ("g", ("b",)))
        self.refuse_knots(("", ("g",)), ("g", ()), ("g", ()))
        self.refuse_knots(("", ("g", "h")), ("g", ("a",)), ("h", ()), ("g", ("a",)))

    def test_a_name_that_is_none(self):
        for name in ["", "A", "abcdefghi", "a b", "a1", "a\n", " ", 0, None, True, ("a",)] + strange_things():
            self.refuse_knots(("", ("g", "a", name)), ("g", ("b",)))
            self.refuse_knots(("", ("g", "a")), ("g", (name,)))
            self.refuse_knots(("", ("g", "a")), ("g", ()), (name, ()))
        for name in ["A", "abcdefghi", " ", 0, None, False, (), []] + strange_things():
            self.refuse_knots((name, ("g", "a")), ("g", ()))
        for name in ["A", "abcdefghi", "a b", "a1"]:
            self.refuse_knots(("", (name,)), (name, ()))

    def test_children_that_are_no_tuple(self):
        for row in [["a"], [], "a", "", None, 0, 1, True, {}, {"a": "b"}, {"a"}] + strange_things():
            self.refuse_knots(("", row))
            self.refuse_knots(("", ("g",)), ("g", row))

    def test_knots_of_another_form(self):
        for knot in [
            (), ("g",), ("g", (), ()), ["g", ()], "g", "", "gh", None, 0, True, {"g": ()}, {}, ((), "g"), ("g", "g"),
        ] + strange_things():
            self.refuse_knots(("", ("g",)), knot)
            self.refuse_knots(knot, ("", ("g",)))
            self.refuse_knots(knot)

    def test_a_unit_twice(self):
        self.refuse_knots(("", ("a", "a")))
        self.refuse_knots(("", ("a", "g")), ("g", ("b", "a")))
        self.refuse_knots(("", ("g", "h")), ("g", ("a",)), ("h", ("a",)))
        self.refuse_knots(("", ("g", "h")), ("g", ()), ("h", ("g",)))

    def test_a_group_that_is_no_child(self):
        self.refuse_knots(("", ("a",)), ("g", ("b",)))
        self.refuse_knots(("", ()), ("g", ()))
        self.refuse_knots(("", ("g",)), ("g", ("a",)), ("h", ()))

    def test_groups_that_lie_in_one_another(self):
        self.refuse_knots(("", ("a",)), ("g", ("g",)))
        self.refuse_knots(("", ("a",)), ("g", ("h",)), ("h", ("g",)))
        self.refuse_knots(("", ("a",)), ("g", ("h", "b")), ("h", ("k",)), ("k", ("g",)))
        names = many_names(8)
        self.refuse_knots(("", ("a",)), *[(name, (names[k - 1],)) for k, name in enumerate(names)])

    def test_sixty_one_units(self):
        names = many_names(61)
        self.refuse_knots(("", tuple(names)))
        self.refuse_knots(("", tuple(names[:30]) + ("g",)), ("g", tuple(names[30:60])))
        self.refuse_knots(("", tuple(names)), *[(name, ()) for name in names])
        self.refuse_knots(("", tuple(many_names(600))))

    def test_a_seventh_group_within_others(self):
        knots = deep_knots()
        self.take(knots, [], [], [])
        self.take(knots + (("ya", ()), ("yf", ("z",))), [], [], [])
        for name in ("xg", "yg"):
            self.refuse_knots(*knots, (name, ()))
            self.refuse_knots(*knots, (name, ("z",)))


class NoTiesTest(HousesCase):
    def test_ties_of_another_form(self):
        for tie in [
            (), ("a",), ("a", "e", "b"), ["a", "e"], "ae", "a", {"a": "e"}, None, 0, True, ("a", ["e"]), (["a"], "e"),
            ("a", None), (0, "e"), ("a", True), ("", "e"), ("a", ""), ("A", "e"), ({}, {}),
        ] + strange_things():
            self.refuse(ties=TIES + (tie,))
            self.refuse(ties=(tie,) + TIES)
            self.refuse(waiting=WAITING + (tie,))
            self.refuse(waiting=(tie,))

    def test_whatever_thing_in_the_place_of_a_unit(self):
        for thing in strange_things():
            for tie in ((thing, "e"), ("a", thing), (thing, thing)):
                self.refuse(ties=TIES + (tie,))
                self.refuse(waiting=WAITING + (tie,))

    def test_a_tie_of_no_unit(self):
        for tie in (("a", "z"), ("z", "e"), ("z", "y"), ("", "a"), ("a", "")):
            self.refuse(ties=TIES + (tie,))
            self.refuse(waiting=WAITING + (tie,))

    def test_a_tie_told_twice(self):
        self.refuse(ties=TIES + TIES[:1])
        self.refuse(ties=(("a", "c"), ("a", "c")))
        self.refuse(waiting=WAITING + WAITING[1:])

    def test_a_waiting_one_among_the_kept_ones(self):
        self.refuse(waiting=WAITING + TIES[:1])
        self.refuse(ties=TIES, waiting=TIES[2:])
        self.refuse([("", ("a", "b"))], [("a", "b")], [("a", "b")], [])

    def test_a_tie_of_a_unit_and_one_within_it(self):
        for tie in (("a", "a"), ("g", "g"), ("g", "b"), ("b", "g"), ("g", "h"), ("g", "c"), ("c", "g"), ("c", "h")):
            self.refuse(ties=TIES + (tie,))
            self.refuse(waiting=WAITING + (tie,))

    def test_two_hundred_and_one_in_both(self):
        names = many_names(60)
        knots = [("", tuple(names))]
        ties = forward_ties(names, 201)
        back = [(other, one) for one, other in ties]
        self.refuse(knots, ties, [], [])
        self.refuse(knots, ties[:200], back[:1], [])
        self.refuse(knots, ties[:100], back[:101], [])
        self.refuse(knots, ties[:59], back[:142], [])


class NoWantsTest(HousesCase):
    def test_wants_of_another_form(self):
        for want in [
            (), ("first",), ("first", "b", "b"), ["first", "b"], "first", "fb", {"first": "b"}, None, 0, True,
            ("first", ["b"]), (["first"], "b"), ("first", None), (None, "b"), (0, "b"), (True, "b"), ("first", ""),
            ("b", "first"), ({}, {}),
        ] + strange_things():
            self.refuse(wants=WANTS + (want,))
            self.refuse(wants=(want,))
        self.take(KNOTS, TIES, WAITING, WANTS + (("first", "b"),))

    def test_whatever_thing_in_the_place_of_a_word_or_unit(self):
        for thing in strange_things():
            for want in ((thing, "b"), ("first", thing), (thing, thing)):
                self.refuse(wants=WANTS + (want,))

    def test_another_word(self):
        for word in ("", "First", "LAST", "tie", "next", "first ", "firs", "b"):
            self.refuse(wants=WANTS + ((word, "b"),))

    def test_of_no_unit(self):
        for unit in ("z", "", "first", "B"):
            self.refuse(wants=WANTS + (("first", unit),))

    def test_both_words_of_one_unit(self):
        self.refuse([("", ("a",))], [], [], [("first", "a"), ("last", "a")])
        self.refuse(wants=WANTS + (("last", "c"),))

    def test_a_want_told_twice(self):
        self.refuse([("", ("a",))], [], [], [("first", "a"), ("first", "a")])
        self.refuse(wants=WANTS + WANTS[:1])

    def test_two_children_of_one_knot_by_one_word(self):
        knots = [("", ("a", "b", "g")), ("g", ("c",))]
        for word in ("first", "last"):
            self.refuse(knots, [], [], [(word, "a"), (word, "b")])
            self.refuse(knots, [], [], [(word, "g"), (word, "b")])
        self.take(knots, [], [], [("first", "a"), ("first", "c"), ("last", "g")])


class NotGoodTest(HousesCase):
    def test_children_that_are_no_order_of_their_view(self):
        self.refuse([("", ("b", "a"))], [("a", "b")], [], [])
        self.refuse([("", ("a", "b"))], [("a", "b"), ("b", "a")], [], [])
        self.refuse([("", ("g", "h")), ("g", ("a",)), ("h", ("b",))], [("b", "a")], [], [])
        self.refuse([("", ("g",)), ("g", ("b", "a"))], [("a", "b")], [], [])
        self.refuse((("", ("g", "a", "e")),) + KNOTS[1:])
        self.refuse(KNOTS[:1] + (("g", ("d", "h", "b")),) + KNOTS[2:], TIES, WAITING[:1], WANTS[:2])

    def test_a_wanted_child_that_stands_elsewhere(self):
        knots = [("", ("a", "b", "c"))]
        for word, unit in [("first", "b"), ("first", "c"), ("last", "a"), ("last", "b")]:
            self.refuse(knots, [], [], [(word, unit)])
        self.take(knots, [], [], [("first", "a"), ("last", "c")])
        self.refuse(knots, [], [], [("first", "c"), ("last", "a")])

    def test_a_waiting_tie_that_closes_no_ring(self):
        self.refuse([("", ("a", "b"))], [], [("a", "b")], [])
        self.refuse([("", ("a", "b"))], [], [("b", "a")], [])
        self.refuse([("", ("a", "b", "c"))], [("a", "b")], [("c", "a")], [])
        self.refuse([("", ("a", "b", "c"))], [("a", "b")], [("b", "a"), ("c", "b")], [])
        self.refuse(ties=TIES[:1], waiting=WAITING[1:], wants=WANTS[:2])
        # two that would close a ring with one another, but not with what is kept
        self.refuse([("", ("a", "b"))], [], [("a", "b"), ("b", "a")], [])

    def test_waiting_ties_that_close_one(self):
        knots = [("", ("a", "b", "c"))]
        self.take(knots, [("a", "b"), ("b", "c")], [("c", "a"), ("b", "a")], [])
        self.take(knots, [], [("c", "a"), ("b", "a")], [("first", "a")])
        self.take(knots, [], [("c", "a"), ("c", "b")], [("last", "c")])
        self.take([("", ("g", "h")), ("g", ("a",)), ("h", ("b",))], [("a", "b")], [("h", "a"), ("b", "g")], [])

    def test_each_order_of_the_children_by_the_words(self):
        for house in made_houses(60):
            for place, (name, row) in enumerate(house[0]):
                for some in list(permutations(row))[:24]:
                    knots = house[0][:place] + ((name, some),) + house[0][place + 1:]
                    other = (knots,) + house[1:]
                    self.assertIs(is_house(other), is_good_by_words(other), other)

    def test_each_waiting_tie_by_the_words(self):
        for house in made_houses(60):
            for one, other in permutations([unit for name, row in house[0] for unit in row], 2):
                if (one, other) not in house[1] + house[2]:
                    more = (house[0], house[1], house[2] + ((one, other),), house[3])
                    within = lies_within(house, one, other) or lies_within(house, other, one)
                    self.assertIs(is_house(more), not within and is_good_by_words(more), more)


class WhateverTest(HousesCase):
    def test_each_part_of_another_kind(self):
        for thing in OTHER_KINDS + strange_things():
            for place in range(4):
                for house in (EMPTY, HOUSE):
                    self.refuse_parts(*house[:place], thing, *house[place + 1:])
            self.refuse_parts(thing, thing, thing, thing)

    def test_whatever_thing(self):
        for thing in OTHER_KINDS + strange_things() + [
            (), [], EMPTY[:3], EMPTY + ((),), EMPTY[0], list(EMPTY), (EMPTY,), ((), (), (), ()), ("", (), (), ()),
            "house",
            [[("", ())], [], [], []], ((("", ()),), (), ()), (((),), (), (), ()), {"": ()},
            ((("", ()),), (), (), (), ()),
        ]:
            self.assertIs(is_house(thing), False, repr(thing))

    def test_a_list_is_no_tuple(self):
        self.assertIs(is_house(HOUSE), True)
        self.assertIs(is_house(list(HOUSE)), False)
        for place in range(4):
            self.assertIs(is_house(HOUSE[:place] + (list(HOUSE[place]),) + HOUSE[place + 1:]), False)
        for place in range(4):
            inner = (list(HOUSE[place][0]),) + HOUSE[place][1:]
            parts = HOUSE[:place] + (inner,) + HOUSE[place + 1:]
            self.refuse(*parts)


class WholeOrderTest(unittest.TestCase):
    def test_read_down_from_the_top(self):
        self.assertEqual(whole_order(HOUSE), ["a", "b", "c", "d", "e"])
        knots = [("", ("h", "z", "g")), ("g", ("y", "k")), ("h", ("w", "x")), ("k", ("v", "u"))]
        self.assertEqual(whole_order(house_of(knots, [], [], [])), ["w", "x", "z", "y", "v", "u"])

    def test_groups_without_children_and_houses_without_things(self):
        self.assertEqual(whole_order(EMPTY), [])
        self.assertEqual(whole_order(house_of([("", ("g",)), ("g", ())], [], [], [])), [])
        self.assertEqual(whole_order(house_of([("", ("g", "h")), ("h", ("k",)), ("k", ()), ("g", ())], [], [], [])), [])
        self.assertEqual(whole_order(house_of([("", ("a", "g", "b")), ("g", ())], [], [], [])), ["a", "b"])

    def test_at_the_bounds(self):
        told = whole_order(house_of(deep_knots(), [], [], []))
        self.assertEqual(told, ["x" + letter for letter in "abcdefg"] + ["y" + letter for letter in "gfedcba"])
        names = many_names(60)
        self.assertEqual(whole_order(house_of([("", tuple(names))], [], [], [])), names)

    def test_each_kept_tie_of_things_goes_forward(self):
        for house in made_houses(150):
            told = whole_order(house)
            groups = [name for name, row in house[0]]
            self.assertEqual(sorted(told), sorted(u for name, row in house[0] for u in row if u not in groups))
            for one, other in house[1]:
                if one in told and other in told:
                    self.assertLess(told.index(one), told.index(other))

    def test_own_lists(self):
        whole_order(HOUSE).clear()
        whole_order(EMPTY).append("z")
        self.assertEqual((whole_order(HOUSE), whole_order(EMPTY)), (["a", "b", "c", "d", "e"], []))


class OwnTest(unittest.TestCase):
    def test_what_is_handed_in_stays_and_does_not_matter_later(self):
        parts = [list(part) for part in HOUSE]
        house = house_of(*parts)
        self.assertEqual(parts, [list(part) for part in HOUSE])
        for part in parts:
            part.clear()
        self.assertEqual(house, HOUSE)

    def test_a_refusal_changes_nothing(self):
        parts = [[("", ["a"])], [["a", "b"]], [], []]
        with self.assertRaises(NoHouse):
            house_of(*parts)
        self.assertIs(is_house(tuple(parts)), False)
        self.assertEqual(parts, [[("", ["a"])], [["a", "b"]], [], []])


if __name__ == "__main__":
    unittest.main()
