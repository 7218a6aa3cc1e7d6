import copy
import unittest

from orderkeep import errors
from orderkeep.deeds import behind, is_deed
from orderkeep.houses import EMPTY, house_of, is_house
from tests.deeds_by_words import Refused, all_deeds, plain_behind
from tests.houses_by_words import is_good_by_words, made_houses
from tests.samples import deep_knots, forward_ties, many_names, strange_things

# at the top a is wanted first and e last, g holds b, h, d, and h holds c alone
HOUSE = house_of(
    [("", ("a", "g", "e")), ("g", ("b", "h", "d")), ("h", ("c",))],
    [("a", "c"), ("b", "d"), ("g", "e")],
    [("e", "b"), ("d", "b")],
    [("first", "a"), ("last", "e"), ("last", "d"), ("first", "c")])
DEEDS = [
    ("thing", "a", ""), ("thing", "abcdefgh", "g"), ("tie", "a", "b"), ("tie", "a", "a"), ("wait", "a", "b"),
    ("untie", "a", "b"), ("drop", "a"), ("group", "g", ["a"]), ("group", "g", ("b", "a", "g")), ("open", "g"),
    ("want", "first", "a"), ("want", "last", "a"), ("unwant", "first", "a"), ("unwant", "last", "a"),
]
MANY = [
    ("many", []), ("many", ()), ("many", DEEDS), ("many", tuple(DEEDS)), ("many", [("many", [])]),
    ("many", (("many", ()), ("drop", "a"), ("many", [("drop", "a"), ("open", "b")]))),
    ("many", [("many", DEEDS), ("many", tuple(DEEDS))]), ("many", [("drop", "a")] * 1000),
]
NO_NAMES = ["", "A", "a b", " a", "abcdefghi", "a1", "\n", 0, 1, None, True, [], (), ["a"], ("a",), {}, {"a": "a"}]
NO_WORDS = ["", "First", "first ", "middle", "a", "tie", "firstlast", 0, None, True, ["first"], ("last",), {"last": 1}]
NO_MEMBERS = [
    "", "a", "ab", {}, {"a": "b"}, {"a"}, [], (), ["a", "a"], ("b", "a", "b"), [""], ["a", "A"], ["a", None], [0],
    [["a"]], [("a",)], (["a"],), None, 0, True, ["a", "abcdefghi"], range(3),
]
NO_MANY = [
    "", "ab", "drop", {}, {"drop": "a"}, None, 0, 2, True, ("drop", "a"), ["drop", "a"], [None], [[]], [()], ["a"],
]


def told_of(house, deed):
    """The house behind, or the name of the refusal with its field."""
    try:
        return behind(house, deed)
    except errors.OrderError as error:
        return (error.__class__.__name__, getattr(error, "name", getattr(error, "ring", None)))


def by_words(house, deed):
    try:
        return plain_behind(house, deed)
    except Refused as refused:
        return refused.told


def no_deeds():
    """Things that are no deeds, by one fault each."""
    told = [None, 0, 1, "", "drop a", "drop", True, {}, {"drop": "a"}, [], (), ("drop",), ("a",), ("",)]
    words = ("", "Drop", "deed", " tie", "tie ", "first", None, 0, ("tie",), ["tie"])
    for deed in DEEDS:
        told += [list(deed), deed[:-1], deed + ("a",), deed + ("",), deed + (None,), (deed,), {deed[0]: deed[1:]}]
        told += [(word,) + deed[1:] for word in words]
    for word in ("tie", "wait", "untie"):
        told += [(word, name, "a") for name in NO_NAMES] + [(word, "a", name) for name in NO_NAMES]
    for name in NO_NAMES:
        told += [("thing", name, ""), ("drop", name), ("open", name), ("group", name, ["a"])]
        told += [("want", "first", name), ("unwant", "last", name)]
        told += [("thing", "a", name)] if name != "" else []
    told += [(word, some, "a") for word in ("want", "unwant") for some in NO_WORDS]
    told += [("group", "g", members) for members in NO_MEMBERS]
    told += [("many",), ("many", [], []), ["many", []], ("many", [], ()), ("Many", []), ("", [])]
    return told + [("many", deeds) for deeds in NO_MANY]


def too_deep():
    """A many in a many in a many, and what is no deed within a many."""
    inner = [("many", []), ("many", [("drop", "a")]), ("many", [("many", [])])]
    told = [("many", [("many", [deed])]) for deed in inner] + [("many", [("drop", "a"), ("many", inner)])]
    deep = ("many", [])
    for turn in range(9):
        deep = ("many", [("drop", "a"), deep])
    for deed in (None, (), ("drop", ""), ("group", "g", ["a", "a"]), ("want", "", "a"), ["drop", "a"]):
        told += [("many", [deed]), ("many", (("drop", "a"), deed)), ("many", [deed, ("drop", "a")])]
        told += [("many", [("drop", "a"), ("many", [("drop", "b"), deed])]), ("many", [("many", (deed,))])]
    return told + [deep]


class DeedsCase(unittest.TestCase):
    def refuse(self, house, deed, name, field=None):
        """Refused with just this class and field; what is handed in stays as it was."""
        kept = copy.deepcopy(deed)
        with self.assertRaises(errors.OrderError, msg=repr(deed)) as caught:
            behind(house, deed)
        self.assertEqual(caught.exception.__class__, getattr(errors, name), repr(deed))
        self.assertEqual(getattr(caught.exception, "name", getattr(caught.exception, "ring", None)), field, repr(deed))
        self.assertEqual(deed, kept)

    def lead(self, house, deed, *parts):
        """Done, it leads to just this house; likewise alone in a many."""
        house = house_of(*house)
        told = behind(house, deed)
        self.assertEqual(told, tuple(tuple(part) for part in parts), repr(deed))
        self.assertIs(is_house(told), True)
        for many in (("many", [deed]), ("many", (("many", (deed,)), ("many", [])))):
            self.assertEqual(behind(house, many), told)


class IsDeedTest(unittest.TestCase):
    def test_each_of_the_deeds(self):
        for deed in DEEDS + MANY:
            self.assertIs(is_deed(deed), True, repr(deed)[:80])

    def test_whatever_else(self):
        for thing in no_deeds() + too_deep() + strange_things():
            self.assertIs(is_deed(thing), False, repr(thing)[:80])

    def test_whatever_thing_in_each_place(self):
        for thing in strange_things():
            for deed in DEEDS + MANY[:1]:
                for place in range(len(deed)):
                    other = deed[:place] + (thing,) + deed[place + 1:]
                    self.assertIs(is_deed(other), False, repr(other))
                    self.assertIs(is_deed(("many", [other])), False, repr(other))
            self.assertIs(is_deed(("many", [("drop", "a"), thing])), False, repr(thing))
            self.assertIs(is_deed(("many", [("many", (thing, ("drop", "a")))])), False, repr(thing))
            self.assertIs(is_deed(("group", "g", ["a", thing])), False, repr(thing))

    def test_members_however_many(self):
        self.assertIs(is_deed(("group", "g", many_names(600))), True)
        self.assertIs(is_deed(("group", "g", many_names(600) + ["aa"])), False)


class NoDeedTest(DeedsCase):
    def test_refused_with_no_deed(self):
        for house in (HOUSE, EMPTY):
            for thing in no_deeds() + too_deep() + strange_things():
                with self.assertRaises(errors.NoDeed, msg=repr(thing)[:80]) as caught:
                    behind(house, thing)
                self.assertEqual(caught.exception.__class__, errors.NoDeed)

    def test_ahead_of_all_else(self):
        self.refuse(HOUSE, ("tie", "nope", "A"), "NoDeed")
        self.refuse(HOUSE, ("group", "a", ["nope", "nope"]), "NoDeed")
        self.refuse(HOUSE, ("group", "a", []), "NoDeed")
        self.refuse(HOUSE, ("want", "no", "nope"), "NoDeed")
        # in a many too, wherever it stands
        self.refuse(HOUSE, ("many", [("drop", "nope"), ("drop", "")]), "NoDeed")
        self.refuse(HOUSE, ("many", [("drop", "nope"), ("many", [("drop", "a"), ("open",)])]), "NoDeed")


class RefusedTest(DeedsCase):
    LINE = house_of([("", ("a", "b", "c", "d"))], [("a", "b"), ("b", "c")], [("c", "a")], [("first", "a")])

    def test_thing(self):
        self.refuse(HOUSE, ("thing", "a", ""), "Twice")
        self.refuse(HOUSE, ("thing", "h", "g"), "Twice")
        self.refuse(HOUSE, ("thing", "c", "nope"), "Twice")
        self.refuse(HOUSE, ("thing", "c", "c"), "Twice")
        self.refuse(HOUSE, ("thing", "x", "nope"), "NoUnit", "nope")
        self.refuse(HOUSE, ("thing", "x", "x"), "NoUnit", "x")
        self.refuse(HOUSE, ("thing", "x", "c"), "NoUnit", "c")

    def test_tie_and_wait(self):
        for word in ("tie", "wait"):
            self.refuse(HOUSE, (word, "x", "y"), "NoUnit", "x")
            self.refuse(HOUSE, (word, "x", "a"), "NoUnit", "x")
            self.refuse(HOUSE, (word, "a", "y"), "NoUnit", "y")
            self.refuse(HOUSE, (word, "x", "x"), "NoUnit", "x")
            for unit, group in [("a", "a"), ("g", "g"), ("b", "g"), ("c", "g"), ("h", "g"), ("c", "h")]:
                self.refuse(HOUSE, (word, unit, group), "Within")
                self.refuse(HOUSE, (word, group, unit), "Within")
            for tie in HOUSE[1] + HOUSE[2]:
                self.refuse(HOUSE, (word,) + tie, "Twice")

    def test_tie_that_closes_a_ring(self):
        self.refuse(HOUSE, ("tie", "e", "g"), "Ring", [("tie", "e", "g"), ("tie", "g", "e")])
        self.refuse(HOUSE, ("tie", "c", "a"), "Ring", [("tie", "c", "a"), ("tie", "a", "c")])
        self.refuse(HOUSE, ("tie", "d", "h"), "Ring", [("tie", "d", "h"), ("last", "h", "d")])
        self.refuse(HOUSE, ("tie", "e", "a"), "Ring", [("tie", "e", "a"), ("first", "a", "e")])
        ring = [("tie", "c", "a"), ("tie", "a", "b"), ("tie", "b", "c")]
        bare = house_of([("", ("a", "b", "c"))], [("a", "b"), ("b", "c")], [], [])
        self.refuse(bare, ("tie", "c", "a"), "Ring", ring)

    def test_untie(self):
        self.refuse(HOUSE, ("untie", "x", "y"), "NoUnit", "x")
        self.refuse(HOUSE, ("untie", "b", "y"), "NoUnit", "y")
        for pair in [("b", "e"), ("d", "a"), ("a", "a"), ("c", "g"), ("a", "h"), ("b", "a")]:
            self.refuse(HOUSE, ("untie",) + pair, "NoTie")

    def test_drop(self):
        self.refuse(HOUSE, ("drop", "x"), "NoUnit", "x")
        self.refuse(HOUSE, ("drop", "g"), "Full")
        self.refuse(HOUSE, ("drop", "h"), "Full")

    def test_group(self):
        self.refuse(HOUSE, ("group", "a", ["e"]), "Twice")
        self.refuse(HOUSE, ("group", "g", ["g"]), "Twice")
        self.refuse(HOUSE, ("group", "c", ["x"]), "Twice")
        self.refuse(HOUSE, ("group", "c", ["a", "b"]), "Twice")
        self.refuse(HOUSE, ("group", "k", ["k"]), "NoUnit", "k")
        self.refuse(HOUSE, ("group", "k", ["a", "y", "x", "e"]), "NoUnit", "y")
        self.refuse(HOUSE, ("group", "k", ["a", "b", "x"]), "NoUnit", "x")
        self.refuse(HOUSE, ("group", "k", many_names(600)), "NoUnit", "aa")
        for members in (["a", "b"], ("g", "b"), ["h", "c"], ("b", "d", "e"), ["c", "a"]):
            self.refuse(HOUSE, ("group", "k", members), "Apart")
        for members in (["a", "c"], ("c", "a"), ["d", "c", "a"]):
            self.refuse(self.LINE, ("group", "k", members), "Ring", [("tie", "a", "b"), ("tie", "b", "c")])

    def test_open(self):
        self.refuse(HOUSE, ("open", "x"), "NoUnit", "x")
        self.refuse(HOUSE, ("open", "a"), "NoUnit", "a")
        self.refuse(HOUSE, ("open", "c"), "NoUnit", "c")

    def test_want(self):
        self.refuse(HOUSE, ("want", "first", "x"), "NoUnit", "x")
        for want in HOUSE[3]:
            self.refuse(HOUSE, ("want",) + want, "Twice")
        # wanted by the other word already, then another child by this word
        self.refuse(HOUSE, ("want", "last", "a"), "Twice")
        self.refuse(HOUSE, ("want", "last", "c"), "Twice")
        self.refuse(HOUSE, ("want", "first", "e"), "Twice")
        self.refuse(HOUSE, ("want", "first", "g"), "Twice")
        self.refuse(HOUSE, ("want", "last", "b"), "Twice")
        # both Twice and Ring are due
        self.refuse(self.LINE, ("want", "first", "c"), "Twice")
        self.refuse(self.LINE, ("want", "last", "a"), "Twice")
        self.refuse(self.LINE, ("want", "last", "b"), "Ring", [("last", "c", "b"), ("tie", "b", "c")])
        self.refuse(HOUSE, ("want", "first", "d"), "Twice")
        house = house_of([("", ("a", "b", "c"))], [("a", "b"), ("b", "c")], [], [])
        self.refuse(house, ("want", "first", "c"), "Ring", [("first", "c", "b"), ("tie", "b", "c")])

    def test_unwant(self):
        self.refuse(HOUSE, ("unwant", "first", "x"), "NoUnit", "x")
        for want in [("first", "e"), ("last", "a"), ("first", "b"), ("last", "c"), ("first", "g")]:
            self.refuse(HOUSE, ("unwant",) + want, "NoWant")


class TooManyTest(DeedsCase):
    def test_a_61st_unit(self):
        names = many_names(60)
        full = house_of([("", tuple(names[:2]) + tuple(names[3:])), (names[0], (names[2],))], [], [], [])
        self.refuse(full, ("thing", "new", ""), "TooMany")
        self.refuse(full, ("thing", "new", names[0]), "TooMany")
        self.refuse(full, ("group", "new", [names[3]]), "TooMany")
        self.refuse(full, ("thing", names[5], ""), "Twice")
        self.refuse(full, ("thing", "new", "nope"), "NoUnit", "nope")
        self.refuse(full, ("group", names[5], [names[3]]), "Twice")
        self.refuse(full, ("group", "new", [names[3], "nope"]), "NoUnit", "nope")
        self.refuse(full, ("group", "new", [names[2], names[3]]), "Apart")
        self.refuse(full, ("many", [("drop", names[5]), ("thing", "x", ""), ("thing", "y", "")]), "TooMany")
        self.assertIs(is_house(behind(full, ("many", [("drop", names[5]), ("thing", "x", "")]))), True)

    def test_a_60th_unit(self):
        names = many_names(59)
        house = house_of([("", tuple(names))], [], [], [])
        self.lead(house, ("thing", "new", ""), [("", tuple(names) + ("new",))], (), (), ())
        told = behind(house, ("group", "new", names))
        self.assertEqual(told[0], (("", ("new",)), ("new", tuple(names))))
        self.refuse(told, ("thing", "x", "new"), "TooMany")

    def test_ahead_of_ring_alone(self):
        names = many_names(60)
        full = house_of([("", tuple(names))], list(zip(names, names[1:])), [], [])
        self.refuse(full, ("group", "new", [names[0], names[2]]), "TooMany")

    def test_a_seventh_group_within_others(self):
        deep = house_of(deep_knots(), [("xg", "yg"), ("xa", "ya")], [], [])
        for members in (["xg"], ["yg"], ["yg", "xg"], ["ga"], ["xa", "ga"], ["gb"], ["gf"], ["ge", "xe"]):
            self.refuse(deep, ("group", "new", members), "TooMany")
        self.refuse(deep, ("group", "new", ["xg", "xf"]), "Apart")
        self.refuse(deep, ("group", "xa", ["xg"]), "Twice")
        for members in (["xf"], ["yf", "xf"], ["xa", "ya", "bare"], ["bare"], ["xb"]):
            told = behind(deep, ("group", "new", members))
            self.assertIs(is_house(told), True)
            self.assertEqual(told[0][-1][0], "new")
        # five groups one within another, and the new one around them or around some of them
        shallow = behind(deep, ("open", "gf"))
        for members in (["ga"], ["xa", "ga", "ya"], ["gb"], ["ge"], ["xf"]):
            told = behind(shallow, ("group", "new", members))
            self.assertIs(is_house(told), True)
            self.refuse(told, ("group", "more", members), "TooMany")

    def test_a_seventh_group_ahead_of_ring_alone(self):
        knots = [("", ("ga",))] + [("g" + one, ("g" + other,)) for one, other in zip("abcde", "bcdef")]
        house = house_of(knots + [("gf", ("a", "b", "c"))], [("a", "b"), ("b", "c")], [], [])
        self.refuse(house, ("group", "new", ["a", "c"]), "TooMany")
        opened = behind(house, ("open", "ga"))
        self.refuse(opened, ("group", "new", ["a", "c"]), "Ring", [("tie", "a", "b"), ("tie", "b", "c")])

    def test_a_201st_tie(self):
        names = many_names(60)
        kept = forward_ties(names, 150)
        waiting = [pair[::-1] for pair in kept[:50]]
        for house in (
            house_of([("", tuple(names[:59])), ("am", (names[59],))], forward_ties(names[:59], 200), [], []),
            house_of([("", tuple(names))], kept, waiting, []),
        ):
            for word in ("tie", "wait"):
                self.refuse(house, (word, names[3], names[40]), "TooMany")
                # a ring is due too
                self.refuse(house, (word, names[52], names[51]), "TooMany")
                self.refuse(house, (word, names[51], "nope"), "NoUnit", "nope")
                self.refuse(house, (word, names[51], names[51]), "Within")
                self.refuse(house, (word,) + house[1][7], "Twice")
            left = behind(house, ("untie",) + house[1][-1])
            told = behind(left, ("tie", names[3], names[40]))
            self.assertEqual(len(told[1]) + len(told[2]), 200)
        self.refuse(house, ("tie",) + waiting[7], "Twice")


class ThingTest(DeedsCase):
    def test_the_last_child_of_its_knot(self):
        self.lead(EMPTY, ("thing", "a", ""), [("", ("a",))], (), (), ())
        knots = [("", ("z", "g", "b")), ("g", ())]
        self.lead((knots, (), (), ()), ("thing", "a", ""), [("", ("z", "g", "b", "a")), ("g", ())], (), (), ())
        self.lead((knots, (), (), ()), ("thing", "a", "g"), [("", ("z", "g", "b")), ("g", ("a",))], (), (), ())

    def test_ahead_of_one_that_is_wanted_last(self):
        self.lead(HOUSE, ("thing", "x", ""), (("", ("a", "g", "x", "e")),) + HOUSE[0][1:], *HOUSE[1:])
        self.lead(HOUSE, ("thing", "x", "g"), (HOUSE[0][0], ("g", ("b", "h", "x", "d")), HOUSE[0][2]), *HOUSE[1:])
        # the want of a child of another knot, and a child wanted first, change nothing
        self.lead(HOUSE, ("thing", "x", "h"), HOUSE[0][:2] + (("h", ("c", "x")),), *HOUSE[1:])
        alone = ([("", ("a",))], (), (), [("last", "a")])
        self.lead(alone, ("thing", "x", ""), [("", ("x", "a"))], (), (), [("last", "a")])
        first = ([("", ("a",))], (), (), [("first", "a")])
        self.lead(first, ("thing", "x", ""), [("", ("a", "x"))], (), (), [("first", "a")])


class TieTest(DeedsCase):
    # e and c reach f, b reaches d
    ROW = ((("", ("a", "b", "c", "d", "e", "f", "g")),), (("b", "d"), ("a", "b"), ("c", "f"), ("e", "f")), (), ())

    def test_kept_behind_all_others_and_children_move(self):
        for word in ("tie", "wait"):
            self.lead(self.ROW, (word, "f", "b"), [("", ("a", "c", "e", "f", "b", "d", "g"))],
                      self.ROW[1] + (("f", "b"),), (), ())
            self.lead(self.ROW, (word, "g", "e"), [("", ("a", "b", "c", "d", "g", "e", "f"))],
                      self.ROW[1] + (("g", "e"),), (), ())
            self.lead(self.ROW, (word, "a", "g"), self.ROW[0], self.ROW[1] + (("a", "g"),), (), ())

    def test_of_units_in_groups(self):
        knots = (("", ("g", "x", "h")), ("g", ("p", "k", "q")), ("h", ("s", "r")), ("k", ("u",)))
        house = (knots, (("s", "r"),), (), ())
        # the two ends part at the top: h goes ahead of g, and x, which hangs on neither, stays
        self.lead(house, ("tie", "r", "u"), (("", ("h", "x", "g")),) + house[0][1:],
                  (("s", "r"), ("r", "u")), (), ())
        self.lead(house, ("tie", "q", "u"), (house[0][0], ("g", ("p", "q", "k"))) + house[0][2:],
                  (("s", "r"), ("q", "u")), (), ())
        self.lead(house, ("tie", "q", "p"), (house[0][0], ("g", ("q", "k", "p"))) + house[0][2:],
                  (("s", "r"), ("q", "p")), (), ())

    def test_a_tie_that_another_one_says_already(self):
        # both part into g and h, but they are unlike ties
        house = ([("", ("g", "h")), ("g", ("a", "b")), ("h", ("c",))], [("a", "c")], [], [])
        self.lead(house, ("tie", "b", "c"), house[0], [("a", "c"), ("b", "c")], (), ())
        self.lead(house, ("tie", "g", "h"), house[0], [("a", "c"), ("g", "h")], (), ())
        self.refuse(house_of(*house), ("tie", "h", "b"), "Ring", [("tie", "h", "b"), ("tie", "a", "c")])

    def test_by_a_tie_no_waiting_one_is_let_in(self):
        house = ([("", ("a", "b", "c"))], [("a", "b")], [("b", "a")], [])
        self.lead(house, ("tie", "c", "a"), [("", ("c", "a", "b"))], [("a", "b"), ("c", "a")], [("b", "a")], ())


class WaitTest(DeedsCase):
    def test_it_waits_behind_all_others(self):
        self.lead(HOUSE, ("wait", "e", "a"), HOUSE[0], HOUSE[1], HOUSE[2] + (("e", "a"),), HOUSE[3])
        self.lead(HOUSE, ("wait", "c", "a"), HOUSE[0], HOUSE[1], HOUSE[2] + (("c", "a"),), HOUSE[3])
        self.lead(HOUSE, ("wait", "d", "c"), HOUSE[0], HOUSE[1], HOUSE[2] + (("d", "c"),), HOUSE[3])

    def test_it_is_kept_where_it_closes_no_ring(self):
        self.lead(HOUSE, ("wait", "h", "b"), (HOUSE[0][0], ("g", ("h", "b", "d")), HOUSE[0][2]),
                  HOUSE[1] + (("h", "b"),), HOUSE[2], HOUSE[3])


class GoneTest(DeedsCase):
    def test_untie(self):
        self.lead(HOUSE, ("untie", "a", "c"), HOUSE[0], HOUSE[1][1:], HOUSE[2], HOUSE[3])
        self.lead(HOUSE, ("untie", "e", "b"), HOUSE[0], HOUSE[1], HOUSE[2][1:], HOUSE[3])
        self.lead(HOUSE, ("untie", "d", "b"), HOUSE[0], HOUSE[1], HOUSE[2][:1], HOUSE[3])

    def test_drop_a_thing(self):
        self.lead(HOUSE, ("drop", "b"), (HOUSE[0][0], ("g", ("h", "d")), HOUSE[0][2]),
                  (("a", "c"), ("g", "e")), (), HOUSE[3])
        self.lead(HOUSE, ("drop", "c"), HOUSE[0][:2] + (("h", ()),), HOUSE[1][1:], HOUSE[2], HOUSE[3][:3])
        self.lead(HOUSE, ("drop", "e"), (("", ("a", "g")),) + HOUSE[0][1:], HOUSE[1][:2], HOUSE[2][1:],
                  (("first", "a"), ("last", "d"), ("first", "c")))
        self.lead(([("", ("a",))], (), (), [("last", "a")]), ("drop", "a"), [("", ())], (), (), ())

    def test_drop_a_group_without_children(self):
        house = ([("", ("a", "g", "b")), ("h", ()), ("g", ("h", "c"))], [("a", "h"), ("c", "b"), ("h", "c")],
                 [("c", "h"), ("g", "a")], [("first", "h")])
        self.lead(house, ("drop", "h"), [("", ("g", "a", "b")), ("g", ("c",))], [("c", "b"), ("g", "a")], [], [])

    def test_open(self):
        # d is wanted no more, nor c; the tie of g goes, b and d come to stand at the top
        self.lead(HOUSE, ("open", "g"), [("", ("a", "b", "h", "d", "e")), ("h", ("c",))],
                  [("a", "c"), ("b", "d")], HOUSE[2], [("first", "a"), ("last", "e"), ("first", "c")])
        self.lead(HOUSE, ("open", "h"), [HOUSE[0][0], ("g", ("b", "c", "d"))], HOUSE[1], HOUSE[2], HOUSE[3][:3])

    def test_open_in_its_place_with_its_wants(self):
        house = ([("", ("x", "g")), ("g", ("b", "a")), ("h", ()), ("b", ("h",))], [("x", "g"), ("x", "a"), ("b", "a")],
                 [("g", "x"), ("a", "x")], [("first", "b"), ("last", "g"), ("last", "a"), ("first", "h")])
        self.lead(house, ("open", "g"), [("", ("x", "b", "a")), ("h", ()), ("b", ("h",))], [("x", "a"), ("b", "a")],
                  [("a", "x")], [("first", "h")])

    def test_open_a_group_without_children(self):
        house = ([("", ("a", "g", "b")), ("g", ())], [("a", "g"), ("g", "b")], [("b", "a")], [])
        self.lead(house, ("open", "g"), [("", ("b", "a"))], [("b", "a")], [], [])
        self.lead(([("", ("g",)), ("g", ())], (), (), [("last", "g")]), ("open", "g"), *EMPTY)

    def test_unwant(self):
        self.lead(HOUSE, ("unwant", "first", "a"), *HOUSE[:3], HOUSE[3][1:])
        self.lead(HOUSE, ("unwant", "last", "d"), *HOUSE[:3], (HOUSE[3][0], HOUSE[3][1], HOUSE[3][3]))


class GroupTest(DeedsCase):
    ROW = ((("", ("a", "b", "c", "d", "e", "f")),), (("b", "c"), ("e", "f")), (), ())

    def test_behind_all_other_knots_its_children_as_they_stood(self):
        for members in (["b", "e"], ["e", "b"], ("e", "b")):
            # c hangs on b, d on none of them
            self.lead(self.ROW, ("group", "k", members),
                      [("", ("a", "d", "k", "c", "f")), ("k", ("b", "e"))], *self.ROW[1:])
        self.lead(self.ROW, ("group", "k", ["d"]), [("", ("a", "b", "c", "k", "e", "f")), ("k", ("d",))], *self.ROW[1:])
        self.lead(self.ROW, ("group", "k", "f e d c b a".split()),
                  [("", ("k",)), ("k", ("a", "b", "c", "d", "e", "f"))], *self.ROW[1:])
        self.lead(self.ROW, ("group", "k", ["f", "a"]),
                  [("", ("b", "c", "d", "e", "k")), ("k", ("a", "f"))], *self.ROW[1:])
        self.lead(self.ROW, ("group", "k", ["f", "c"]),
                  [("", ("a", "b", "d", "e", "k")), ("k", ("c", "f"))], *self.ROW[1:])

    def test_those_outside_of_the_members_stay(self):
        # f hangs on b, and yet it stands behind the last member already
        house = ([("", ("x", "b", "y", "c", "z", "f"))], [("b", "f"), ("x", "c")], [], [])
        self.lead(house, ("group", "k", ["b", "c"]), [("", ("x", "y", "k", "z", "f")), ("k", ("b", "c"))], *house[1:])

    def test_over_others_and_within_a_group(self):
        # d hangs on b by way of c; both stand behind, as they stood
        house = ([("", ("g",)), ("g", ("a", "b", "c", "d", "e"))], [("b", "c"), ("c", "d")], [], [])
        self.lead(house, ("group", "k", ["e", "b"]),
                  [("", ("g",)), ("g", ("a", "k", "c", "d")), ("k", ("b", "e"))], *house[1:])
        house = ([("", ("b", "c", "d", "e"))], [("b", "d")], [], [])
        self.lead(house, ("group", "k", ["b", "e"]), [("", ("c", "k", "d")), ("k", ("b", "e"))], *house[1:])

    def test_groups_as_members(self):
        told = [("", ("a", "k")), ("g", ("b", "h", "d")), ("h", ("c",)), ("k", ("g", "e"))]
        self.lead(HOUSE, ("group", "k", ["g", "e"]), told, *HOUSE[1:])

    def test_wants_of_members_stay_theirs(self):
        house = ([("", ("a", "b", "c", "d"))], [("c", "d")], [], [("last", "d"), ("first", "a")])
        self.lead(house, ("group", "k", ["a", "d"]), [("", ("b", "c", "k")), ("k", ("a", "d"))], *house[1:])
        # a is wanted first among its own now, and b does not hang on it by that
        self.lead(house, ("group", "k", ["a", "c"]), [("", ("b", "k", "d")), ("k", ("a", "c"))], *house[1:])
        # the want of one that is no member is one of the view
        self.lead(house, ("group", "k", ["b", "c"]), [("", ("a", "k", "d")), ("k", ("b", "c"))], *house[1:])

    def test_reached_by_a_want_of_one_that_is_no_member(self):
        house = ([("", ("a", "b", "c", "z"))], [], [], [("last", "z")])
        self.lead(house, ("group", "k", ["a", "c"]), [("", ("b", "k", "z")), ("k", ("a", "c"))], *house[1:])
        self.lead(house, ("group", "k", ["z", "a"]), [("", ("b", "c", "k")), ("k", ("a", "z"))], *house[1:])


class WantTest(DeedsCase):
    ROW = ((("", ("a", "b", "c", "d")),), (("a", "c"),), (), ())

    def test_ahead_of_all_or_behind_all(self):
        for word, unit, row in [
            ("first", "b", "bacd"), ("first", "d", "dabc"), ("first", "a", "abcd"), ("last", "b", "acdb"),
            ("last", "c", "abdc"), ("last", "d", "abcd"),
        ]:
            self.lead(self.ROW, ("want", word, unit), [("", tuple(row))], self.ROW[1], (), [(word, unit)])

    def test_wants_in_the_order_of_their_coming(self):
        house = ([("", ("a", "g")), ("g", ("b", "c"))], [], [], [("last", "g")])
        self.lead(house, ("want", "first", "a"), *house[:3], [("last", "g"), ("first", "a")])
        self.lead(house, ("want", "first", "c"), [house[0][0], ("g", ("c", "b"))], [], [],
                  [("last", "g"), ("first", "c")])
        self.lead(house, ("want", "last", "b"), [house[0][0], ("g", ("c", "b"))], [], [],
                  [("last", "g"), ("last", "b")])
        alone = ([("", ("a",))], [], [], [])
        self.lead(alone, ("want", "last", "a"), [("", ("a",))], [], [], [("last", "a")])

    def test_beside_a_child_by_the_other_word(self):
        house = ([("", ("a", "b", "c"))], [], [], [("last", "c")])
        self.lead(house, ("want", "first", "b"), [("", ("b", "a", "c"))], [], [], [("last", "c"), ("first", "b")])
        self.refuse(house_of(*house), ("want", "first", "c"), "Twice")

    def test_the_ring_of_a_want_of_another(self):
        house = house_of([("", ("a", "b", "c"))], [("b", "c")], [], [("first", "a")])
        self.refuse(house, ("want", "last", "b"), "Ring", [("last", "c", "b"), ("tie", "b", "c")])


class LetInTest(DeedsCase):
    # x waits for a, twice over: ahead of b and of c, which hang on it by a
    HOUSE = ((("", ("x", "a", "b", "c")),), (("x", "a"), ("a", "b"), ("a", "c")), (("c", "x"), ("b", "x")), ())

    def test_behind_an_untie_of_a_kept_tie(self):
        self.lead(self.HOUSE, ("untie", "x", "a"), [("", ("a", "c", "b", "x"))],
                  [("a", "b"), ("a", "c"), ("c", "x"), ("b", "x")], [], [])
        self.lead(self.HOUSE, ("untie", "a", "b"), [("", ("b", "x", "a", "c"))],
                  [("x", "a"), ("a", "c"), ("b", "x")], [("c", "x")], [])

    def test_in_their_order(self):
        house = ([("", ("a", "b", "c", "d"))], [("a", "b"), ("c", "d"), ("b", "c")],
                 [("d", "a"), ("d", "b"), ("b", "a"), ("c", "b")], [])
        self.lead(house, ("untie", "b", "c"), [("", ("c", "d", "a", "b"))],
                  [("a", "b"), ("c", "d"), ("d", "a"), ("d", "b"), ("c", "b")], [("b", "a")], [])
        house = ([("", ("a", "b", "c"))], [("a", "b"), ("b", "c")], [("b", "a"), ("c", "b"), ("c", "a")], [])
        self.lead(house, ("untie", "b", "c"), [("", ("c", "a", "b"))],
                  [("a", "b"), ("c", "b"), ("c", "a")], [("b", "a")], [])

    def test_by_what_is_kept_then(self):
        # each of the two closes a ring by p and q, then by the other one alone
        row = ("d", "v", "p", "q", "c", "u")
        ties = [("d", "p"), ("v", "p"), ("p", "q"), ("q", "c"), ("q", "u"), ("v", "c"), ("d", "u")]
        left = [tie for tie in ties if tie != ("p", "q")]
        one, other = ("c", "d"), ("u", "v")
        self.lead(([("", row)], ties, [one, other], []), ("untie", "p", "q"),
                  [("", ("v", "q", "c", "d", "p", "u"))], left + [one], [other], [])
        self.lead(([("", row)], ties, [other, one], []), ("untie", "p", "q"),
                  [("", ("d", "q", "u", "v", "p", "c"))], left + [other], [one], [])

    def test_behind_a_drop(self):
        self.lead(self.HOUSE, ("drop", "a"), [("", ("c", "b", "x"))], [("c", "x"), ("b", "x")], [], [])
        # what waits with the dropped one goes with it
        self.lead(self.HOUSE, ("drop", "c"), [("", ("x", "a", "b"))], [("x", "a"), ("a", "b")], [("b", "x")], [])
        # a want goes
        house = ([("", ("s", "a", "b"))], [("a", "b")], [("b", "a"), ("a", "s")], [("first", "s")])
        self.lead(house, ("drop", "s"), [("", ("a", "b"))], [("a", "b")], [("b", "a")], [])

    def test_behind_a_group(self):
        # the wants of members are among themselves now
        house = ([("", ("s", "a", "b"))], [], [("b", "s"), ("a", "s")], [("first", "s")])
        self.lead(house, ("group", "k", ["s", "a"]), [("", ("b", "k")), ("k", ("s", "a"))], [("b", "s")],
                  [("a", "s")], [("first", "s")])
        self.lead(house, ("group", "k", ["s"]), [("", ("b", "a", "k")), ("k", ("s",))], [("b", "s"), ("a", "s")], [],
                  [("first", "s")])

    def test_behind_an_open(self):
        house = ([("", ("g", "h")), ("g", ("a", "b")), ("h", ("c",))], [("a", "c"), ("g", "h")],
                 [("h", "g"), ("c", "b"), ("c", "a")], [])
        # the ties of g go, waiting ones too; c may stand ahead of b, and not ahead of a
        self.lead(house, ("open", "g"), [("", ("a", "h", "b")), ("h", ("c",))], [("a", "c"), ("c", "b")],
                  [("c", "a")], [])
        # the want of a child goes
        house = ([("", ("g",)), ("g", ("s", "a"))], [], [("a", "s")], [("first", "s")])
        self.lead(house, ("open", "g"), [("", ("a", "s"))], [("a", "s")], [], [])

    def test_behind_an_unwant(self):
        house = ([("", ("s", "a", "b"))], [("s", "b")], [("b", "s"), ("a", "s")], [("first", "s")])
        self.lead(house, ("unwant", "first", "s"), [("", ("a", "s", "b"))], [("s", "b"), ("a", "s")], [("b", "s")], [])

    def test_units_that_are_called_like_words(self):
        # the want and the waiting tie are spelled alike
        house = ([("", ("a", "first"))], [], [("first", "a")], [("first", "a")])
        self.lead(house, ("unwant", "first", "a"), [("", ("first", "a"))], [("first", "a")], [], [])
        self.lead(house, ("untie", "first", "a"), house[0], [], [], house[3])
        house = ([("", ("drop", "tie", "open"))], [("tie", "open")], [("open", "tie")], [("first", "drop")])
        self.lead(house, ("drop", "drop"), [("", ("tie", "open"))], house[1], house[2], [])
        self.lead(house, ("untie", "tie", "open"), [("", ("drop", "open", "tie"))], [("open", "tie")], [], house[3])

    def test_in_a_many_behind_each_of_them(self):
        # between the two deeds (b, a) is let in, and so (a, b) closes a ring when it comes
        house = house_of([("", ("a", "b"))], [("a", "b")], [("b", "a")], [])
        told = behind(house, ("many", [("untie", "a", "b"), ("wait", "a", "b")]))
        self.assertEqual(told, ((("", ("b", "a")),), (("b", "a"),), (("a", "b"),), ()))
        self.refuse(house, ("many", [("untie", "a", "b"), ("tie", "a", "b")]), "Ring",
                    [("tie", "a", "b"), ("tie", "b", "a")])
        deeds = [("drop", "a"), ("many", [("thing", "a", ""), ("tie", "x", "a")])]
        told = behind(house_of(*self.HOUSE), ("many", deeds))
        self.assertEqual(told, (
            (("", ("c", "b", "x", "a")),), (("c", "x"), ("b", "x"), ("x", "a")), (), ()))

    def test_by_other_deeds_none(self):
        for deed in [("thing", "n", ""), ("tie", "b", "c"), ("wait", "c", "b"), ("wait", "b", "a"),
                     ("want", "first", "x"), ("want", "last", "b"), ("untie", "c", "x")]:
            told = behind(house_of(*self.HOUSE), deed)
            self.assertEqual([tie for tie in self.HOUSE[2] if tie in told[2]],
                             [tie for tie in self.HOUSE[2] if deed != ("untie",) + tie], deed)
            self.assertEqual([tie for tie in told[1] if tie in self.HOUSE[2]], [], deed)


class ManyTest(DeedsCase):
    def test_none_in_it(self):
        for deed in (("many", []), ("many", ()), ("many", [("many", [])])):
            self.assertEqual(behind(HOUSE, deed), HOUSE)
            self.assertEqual(behind(EMPTY, deed), EMPTY)

    def test_one_behind_the_other(self):
        deeds = [("thing", "a", ""), ("thing", "b", ""), ("tie", "b", "a"), ("group", "g", ["a"]), ("thing", "c", "g")]
        told = ((("", ("b", "g")), ("g", ("a", "c"))), (("b", "a"),), (), ())
        for many in (("many", deeds), ("many", tuple(deeds)), ("many", [("many", deeds[:2]), ("many", deeds[2:])]),
                     ("many", [deeds[0], ("many", deeds[1:4]), deeds[4]])):
            self.assertEqual(behind(EMPTY, many), told)
        house = EMPTY
        for deed in deeds:
            house = behind(house, deed)
        self.assertEqual(house, told)

    def test_refused_as_a_whole(self):
        good = [("drop", "a"), ("thing", "x", "g")]
        for deed, name, field in [
            (("drop", "a"), "NoUnit", "a"), (("thing", "x", ""), "Twice", None), (("tie", "x", "g"), "Within", None),
            (("untie", "x", "b"), "NoTie", None), (("drop", "g"), "Full", None),
            (("group", "k", ["x", "e"]), "Apart", None), (("unwant", "last", "x"), "NoWant", None),
            (("tie", "d", "x"), "Ring", [("tie", "d", "x"), ("last", "x", "d")]),
        ]:
            self.refuse(HOUSE, ("many", good + [deed]), name, field)
            self.refuse(HOUSE, ("many", [("many", good), ("many", [deed, ("drop", "nope")])]), name, field)

    def test_the_first_refusal(self):
        self.refuse(HOUSE, ("many", [("drop", "x"), ("drop", "y"), ("tie", "a", "a")]), "NoUnit", "x")
        self.refuse(HOUSE, ("many", [("tie", "a", "a"), ("drop", "x")]), "Within")

    def test_a_thousand(self):
        deeds = [("thing", "x", ""), ("drop", "x")] * 500
        self.assertEqual(behind(HOUSE, ("many", deeds)), HOUSE)


class ByTheWordsTest(unittest.TestCase):
    def test_each_deed_of_made_houses(self):
        for house in made_houses(90):
            for deed in all_deeds(house):
                told = told_of(house, deed)
                self.assertEqual(told, by_words(house, deed), (house, deed))
                if len(told) == 4:
                    self.assertTrue(is_good_by_words(told), (house, deed))


class OwnTest(unittest.TestCase):
    def test_what_is_handed_in_stays(self):
        members = ["e", "g"]
        deeds = [("group", "k", members), ("many", [("drop", "a")])]
        many = ("many", deeds)
        told = behind(HOUSE, many)
        self.assertEqual((members, deeds), (["e", "g"], [("group", "k", ["e", "g"]), ("many", [("drop", "a")])]))
        kept = copy.deepcopy(told)
        members.clear()
        deeds.clear()
        self.assertEqual(told, kept)

    def test_a_told_ring_changed_changes_no_later_answer(self):
        for turn in range(2):
            with self.assertRaises(errors.Ring) as caught:
                behind(HOUSE, ("tie", "e", "g"))
            self.assertEqual(caught.exception.ring, [("tie", "e", "g"), ("tie", "g", "e")])
            caught.exception.ring.clear()


if __name__ == "__main__":
    unittest.main()
