import unittest
from itertools import combinations, product

from orderkeep.houses import house_of
from orderkeep.steps import is_group_ring, is_tie_ring, is_want_ring, ring_of_group, ring_of_tie, ring_of_want
from tests.houses_by_words import (
    all_steps, free_pairs, free_wants, is_group_ring_by_words, is_tie_ring_by_words, is_want_ring_by_words, made_houses,
    plain_ring_of_group, plain_ring_of_tie, plain_ring_of_want, steps_of_want, units_of)
from tests.samples import deep_knots, many_names, strange_things
from tests.test_views import HOUSE

# a line over groups, with a second tie beside the first of each sort
LINE = house_of(
    [("", ("z", "g", "b", "h", "a")), ("g", ("p", "q")), ("h", ("r", "s"))],
    [("p", "b"), ("z", "q"), ("q", "b"), ("b", "s"), ("z", "p"), ("b", "h"), ("s", "a"), ("h", "a")],
    [("a", "z"), ("b", "p")], [])
# the ways from m to n: over z and y, or over x and w
BRANCHES = house_of(
    [("", ("m", "x", "z", "w", "y", "n"))],
    [("m", "z"), ("z", "y"), ("y", "n"), ("m", "x"), ("x", "w"), ("w", "n")], [], [])


class TieRingToldTest(unittest.TestCase):
    def test_to_the_letter(self):
        self.assertEqual(ring_of_tie(LINE, "a", "z"), [
            ("tie", "a", "z"), ("tie", "z", "q"), ("tie", "p", "b"), ("tie", "b", "s"), ("tie", "s", "a")])
        self.assertEqual(ring_of_tie(LINE, "b", "p"), [("tie", "b", "p"), ("tie", "p", "b")])
        self.assertEqual(ring_of_tie(LINE, "r", "q"), [("tie", "r", "q"), ("tie", "p", "b"), ("tie", "b", "s")])
        self.assertEqual(ring_of_tie(LINE, "h", "g"), [("tie", "h", "g"), ("tie", "p", "b"), ("tie", "b", "s")])

    def test_over_wants(self):
        self.assertEqual(ring_of_tie(HOUSE, "c", "y"), [("tie", "c", "y"), ("tie", "x", "c")])
        self.assertEqual(ring_of_tie(HOUSE, "u", "s"), [("tie", "u", "s"), ("first", "s", "u")])
        self.assertEqual(ring_of_tie(HOUSE, "u", "x"), [("tie", "u", "x"), ("last", "g", "u")])
        self.assertEqual(ring_of_tie(HOUSE, "d", "s"), [("tie", "d", "s"), ("first", "s", "h")])
        self.assertEqual(ring_of_tie(HOUSE, "t", "s"), [("tie", "t", "s"), ("tie", "s", "t")])
        self.assertEqual(ring_of_tie(HOUSE, "b", "a"), [("tie", "b", "a"), ("first", "a", "b")])

    def test_the_fewest_steps_then_by_places(self):
        self.assertEqual(ring_of_tie(BRANCHES, "n", "m"), [
            ("tie", "n", "m"), ("tie", "m", "x"), ("tie", "x", "w"), ("tie", "w", "n")])
        short = house_of(BRANCHES[0], BRANCHES[1] + (("z", "n"),), [], [])
        self.assertEqual(ring_of_tie(short, "n", "m"), [("tie", "n", "m"), ("tie", "m", "z"), ("tie", "z", "n")])

    def test_none_where_there_is_none(self):
        for one, other in LINE[1]:
            self.assertIsNone(ring_of_tie(LINE, one, other))
        for one, other in [("s", "u"), ("s", "y"), ("a", "y"), ("c", "d"), ("d", "c"), ("t", "x"), ("g", "t")]:
            self.assertIsNone(ring_of_tie(HOUSE, one, other))

    def test_made_houses_by_the_words(self):
        for house in made_houses(150):
            for one, other in free_pairs(house):
                told = ring_of_tie(house, one, other)
                self.assertEqual(told, plain_ring_of_tie(house, one, other), (house, one, other))
                if (one, other) in house[2]:
                    self.assertIsNotNone(told)
                if told is not None:
                    self.assertIs(is_tie_ring(house, one, other, told), True)

    def test_at_the_bounds(self):
        names = many_names(60)
        house = house_of([("", tuple(names))], list(zip(names, names[1:])), [], [])
        told = ring_of_tie(house, names[59], names[0])
        self.assertEqual(told, [("tie", names[59], names[0])] + [("tie", *pair) for pair in zip(names, names[1:])])
        self.assertIs(is_tie_ring(house, names[59], names[0], told), True)
        deep = house_of(deep_knots(), [("xa", "yg"), ("xg", "ya")], [], [])
        self.assertEqual(ring_of_tie(deep, "ya", "xa"), [("tie", "ya", "xa"), ("tie", "xa", "yg"), ("tie", "xg", "ya")])


class WantRingToldTest(unittest.TestCase):
    def test_to_the_letter(self):
        self.assertEqual(ring_of_want(LINE, "first", "b"), [("first", "b", "g"), ("tie", "p", "b")])
        self.assertEqual(ring_of_want(LINE, "last", "b"), [("last", "h", "b"), ("tie", "b", "s")])
        self.assertEqual(ring_of_want(LINE, "first", "g"), [("first", "g", "z"), ("tie", "z", "q")])
        self.assertEqual(ring_of_want(LINE, "last", "z"), [("last", "g", "z"), ("tie", "z", "q")])
        self.assertEqual(ring_of_want(HOUSE, "last", "k"), [("last", "b", "k"), ("tie", "y", "b")])
        self.assertEqual(ring_of_want(HOUSE, "first", "y"), [("first", "y", "x"), ("tie", "x", "y")])

    def test_the_first_child_by_places(self):
        house = house_of([("", ("c", "b", "a", "d", "e"))], [("a", "d"), ("b", "d"), ("a", "e"), ("b", "e")], [], [])
        self.assertEqual(ring_of_want(house, "first", "d"), [("first", "d", "b"), ("tie", "b", "d")])
        self.assertEqual(ring_of_want(house, "last", "b"), [("last", "d", "b"), ("tie", "b", "d")])
        self.assertEqual(ring_of_want(house, "last", "a"), [("last", "d", "a"), ("tie", "a", "d")])

    def test_none_where_there_is_none(self):
        self.assertIsNone(ring_of_want(LINE, "first", "z"))
        self.assertIsNone(ring_of_want(LINE, "last", "a"))
        self.assertIsNone(ring_of_want(LINE, "last", "p"))
        self.assertIsNone(ring_of_want(HOUSE, "last", "b"))
        self.assertIsNone(ring_of_want(HOUSE, "first", "d"))

    def test_made_houses_by_the_words(self):
        for house in made_houses(150):
            for word, unit in free_wants(house):
                told = ring_of_want(house, word, unit)
                self.assertEqual(told, plain_ring_of_want(house, word, unit), (house, word, unit))
                if told is not None:
                    self.assertIs(is_want_ring(house, word, unit, told), True)


class GroupRingToldTest(unittest.TestCase):
    def test_to_the_letter(self):
        for members in (["z", "b"], ("b", "z"), ["b", "z"]):
            self.assertEqual(ring_of_group(LINE, members), [("tie", "z", "q"), ("tie", "p", "b")])
        self.assertEqual(ring_of_group(LINE, ["z", "a"]), [
            ("tie", "z", "q"), ("tie", "p", "b"), ("tie", "b", "s"), ("tie", "s", "a")])
        self.assertEqual(ring_of_group(LINE, ["a", "b", "z"]), [("tie", "z", "q"), ("tie", "p", "b")])
        self.assertEqual(ring_of_group(HOUSE, ["h", "s"]), [("tie", "s", "t"), ("tie", "t", "h")])

    def test_the_fewest_steps_then_by_places(self):
        self.assertEqual(ring_of_group(BRANCHES, ["n", "m"]), [("tie", "m", "x"), ("tie", "x", "w"), ("tie", "w", "n")])
        self.assertEqual(ring_of_group(BRANCHES, ["n", "z", "m"]), [("tie", "z", "y"), ("tie", "y", "n")])
        self.assertEqual(ring_of_group(BRANCHES, ["n", "x", "z", "m"]), [("tie", "x", "w"), ("tie", "w", "n")])
        self.assertEqual(ring_of_group(BRANCHES, ["w", "y", "m"]), [("tie", "m", "x"), ("tie", "x", "w")])
        ties = [("c", "d"), ("b", "d"), ("a", "b"), ("a", "c"), ("c", "e")]
        house = house_of([("", ("a", "c", "b", "e", "d"))], ties, [], [])
        self.assertEqual(ring_of_group(house, ["d", "e", "a"]), [("tie", "a", "c"), ("tie", "c", "e")])
        self.assertEqual(ring_of_group(house, ["d", "a"]), [("tie", "a", "c"), ("tie", "c", "d")])

    def test_the_wants_of_members_are_left_out(self):
        knots = [("", ("s", "a", "b", "t"))]
        house = house_of(knots, [("a", "t")], [], [("first", "s")])
        self.assertIsNone(ring_of_group(house, ["s", "t"]))
        tied = house_of(knots, [("a", "t"), ("s", "a")], [], [("first", "s"), ("last", "t")])
        self.assertEqual(ring_of_group(tied, ["s", "t"]), [("tie", "s", "a"), ("tie", "a", "t")])
        both = house_of(knots, [], [], [("first", "s"), ("last", "t")])
        for members in (["s", "t"], ["s", "b"], ["a", "t"], ["s", "a", "t"], ["s", "b", "t"]):
            self.assertIsNone(ring_of_group(both, members))

    def test_none_where_there_is_none(self):
        for members in (["z"], ["z", "g"], ["g", "b"], ["z", "g", "b", "h", "a"], ["z", "g", "b"], ["h", "a"]):
            self.assertIsNone(ring_of_group(LINE, members))
        self.assertIsNone(ring_of_group(LINE, ("p", "q")))
        self.assertIsNone(ring_of_group(HOUSE, ["g", "t"]))

    def test_made_houses_by_the_words(self):
        for house in made_houses(150):
            for name, row in house[0]:
                for count in range(1, len(row) + 1):
                    for members in combinations(row[::-1], count):
                        told = ring_of_group(house, members)
                        self.assertEqual(told, plain_ring_of_group(house, members), (house, members))
                        self.assertEqual(told, ring_of_group(house, list(members)))
                        if told is not None:
                            self.assertIs(is_group_ring(house, members, told), True)

    def test_at_the_bounds(self):
        names = many_names(60)
        house = house_of([("", tuple(names))], list(zip(names, names[1:])), [], [])
        told = ring_of_group(house, [names[59], names[0]])
        self.assertEqual(told, [("tie", *pair) for pair in zip(names, names[1:])])
        self.assertIs(is_group_ring(house, [names[59], names[0]], told), True)
        self.assertIsNone(ring_of_group(house, names))
        self.assertEqual(ring_of_group(house, names[::2]), [("tie", *names[:2]), ("tie", *names[1:3])])


def few_steps(house):
    """Steps of the house and others that look like steps."""
    units = units_of(house)
    some = list(all_steps(house)) + [("tie", one, other) for one, other in product(units, repeat=2)]
    some += [(word, one, other) for word in ("first", "last") for one, other in product(units[:3], repeat=2)]
    return list(dict.fromkeys(some))


def small_houses():
    return [house for house in made_houses(150) if 3 <= len(units_of(house)) <= 4 and len(all_steps(house)) > 1][:16]


class LooksTest(unittest.TestCase):
    def test_ties_by_the_words(self):
        for house in small_houses():
            steps = few_steps(house)
            rest = [list(some) for count in (0, 1, 2) for some in product(steps, repeat=count)]
            for one, other in free_pairs(house)[:4]:
                for tail in rest:
                    ring = [("tie", one, other)] + tail
                    by_words = is_tie_ring_by_words(house, one, other, ring)
                    self.assertIs(is_tie_ring(house, one, other, ring), by_words, (house, ring))
            for one, other in free_pairs(house)[-2:]:
                for ring in rest:
                    by_words = is_tie_ring_by_words(house, one, other, ring)
                    self.assertIs(is_tie_ring(house, one, other, ring), by_words, (house, one, other, ring))

    def test_wants_by_the_words(self):
        for house in small_houses():
            steps = few_steps(house)
            rest = [list(some) for count in (0, 1, 2) for some in product(steps, repeat=count)]
            for word, unit in free_wants(house)[:4]:
                for step in steps_of_want(house, word, unit):
                    for tail in rest:
                        by_words = is_want_ring_by_words(house, word, unit, [step] + tail)
                        self.assertIs(is_want_ring(house, word, unit, [step] + tail), by_words, (house, step, tail))
                for ring in rest:
                    by_words = is_want_ring_by_words(house, word, unit, ring)
                    self.assertIs(is_want_ring(house, word, unit, ring), by_words, (house, word, unit, ring))

    def test_groups_by_the_words(self):
        for house in small_houses():
            steps = few_steps(house)
            rings = [list(some) for count in (0, 1, 2) for some in product(steps, repeat=count)]
            rings += [list(some) for some in product(all_steps(house), repeat=3)]
            for name, row in house[0]:
                for count in range(1, len(row) + 1):
                    for members in list(combinations(row, count))[:3]:
                        for ring in rings:
                            by_words = is_group_ring_by_words(house, members, ring)
                            self.assertIs(is_group_ring(house, members, ring), by_words, (house, members, ring))


class TieRingTest(unittest.TestCase):
    RING = [("tie", "a", "z"), ("tie", "z", "q"), ("tie", "p", "b"), ("tie", "b", "s"), ("tie", "s", "a")]

    def looks(self, ring):
        return is_tie_ring(LINE, "a", "z", ring)

    def test_other_right_ones(self):
        self.assertIs(self.looks(self.RING), True)
        for second, third, fourth, fifth in product("qp", "pq", "sh", "sh"):
            ring = self.RING[:1] + [
                ("tie", "z", second), ("tie", third, "b"), ("tie", "b", fourth), ("tie", fifth, "a")]
            self.assertIs(self.looks(ring), True, ring)
        longer = [("tie", "n", "m"), ("tie", "m", "z"), ("tie", "z", "y"), ("tie", "y", "n")]
        self.assertIs(is_tie_ring(BRANCHES, "n", "m", longer), True)

    def test_a_want_with_any_other_child(self):
        for ring in [
            [("tie", "d", "s"), ("first", "s", "h")], [("tie", "d", "s"), ("tie", "s", "t"), ("tie", "t", "h")],
            [("tie", "d", "s"), ("first", "s", "t"), ("tie", "t", "h")],
            [("tie", "d", "s"), ("first", "s", "g"), ("tie", "a", "d")],
        ]:
            self.assertIs(is_tie_ring(HOUSE, "d", "s", ring), True, ring)
        for ring in [
            [("tie", "u", "s"), ("last", "s", "u")], [("tie", "u", "s"), ("first", "s", "u")],
            [("tie", "u", "s"), ("first", "s", "g"), ("last", "g", "u")],
            [("tie", "u", "s"), ("tie", "s", "t"), ("tie", "t", "h"), ("last", "h", "u")],
        ]:
            self.assertIs(is_tie_ring(HOUSE, "u", "s", ring), True, ring)

    def test_wants_that_are_none(self):
        for step in [
            ("last", "s", "h"), ("first", "h", "s"), ("first", "t", "h"), ("first", "s", "s"), ("first", "s", "d"),
            ("first", "s", "c"), ("first", "s", "z"), ("first", "s", ""), ("First", "s", "h"), ("", "s", "h"),
            ("want", "s", "h"), ("first", "", "h"), ("first", "a", "h"),
        ]:
            self.assertIs(is_tie_ring(HOUSE, "d", "s", [("tie", "d", "s"), step]), False, step)

    def test_too_few_steps(self):
        self.assertIs(self.looks([]), False)
        self.assertIs(self.looks(self.RING[:1]), False)
        for count in range(2, 5):
            self.assertIs(self.looks(self.RING[:count]), False)
        loose = house_of([("", ("a", "b"))], [], [], [])
        self.assertIs(is_tie_ring(loose, "a", "b", [("tie", "a", "b")]), False)
        self.assertIs(is_tie_ring(loose, "a", "b", [("tie", "a", "b"), ("tie", "b", "a")]), False)

    def test_another_first_step(self):
        for step in [
            ("tie", "z", "a"), ("tie", "h", "z"), ("tie", "b", "z"), ("first", "a", "z"), ("last", "a", "z"),
            ("tie", "a", "g"), ("", "a", "z"), ("tie", "", ""), ("wait", "a", "z"),
        ]:
            self.assertIs(self.looks([step] + self.RING[1:]), False, step)
        self.assertIs(self.looks(self.RING[1:] + self.RING[:1]), False)
        # as right as the other, but for another tie
        self.assertIs(is_tie_ring(LINE, "r", "q", [("tie", "r", "p"), ("tie", "p", "b"), ("tie", "b", "s")]), False)
        self.assertIs(is_tie_ring(LINE, "r", "p", [("tie", "r", "p"), ("tie", "p", "b"), ("tie", "b", "s")]), True)

    def test_a_step_that_is_none(self):
        for pair in [("z", "g"), ("z", "b"), ("q", "z"), ("z", "x"), ("", "q"), ("z", "")]:
            step = ("tie", *pair)
            self.assertIs(self.looks([self.RING[0], step] + self.RING[2:]), False, step)
        # a waiting one is no step
        self.assertIs(is_tie_ring(LINE, "g", "b", [("tie", "g", "b"), ("tie", "b", "p")]), False)

    def test_a_step_of_another_knot(self):
        house = house_of([("", ("a", "g")), ("g", ("b", "c"))], [("b", "c")], [], [("first", "b")])
        for step in [("tie", "b", "c"), ("first", "b", "c")]:
            self.assertIs(is_tie_ring(house, "c", "b", [("tie", "c", "b"), step]), True)
            self.assertIs(is_tie_ring(house, "g", "a", [("tie", "g", "a"), step]), False)
            self.assertIs(is_tie_ring(house, "c", "b", [("tie", "c", "b"), step, ("tie", "g", "a")]), False)

    def test_steps_that_do_not_meet(self):
        ring = self.RING
        for other in [
            [ring[0], ring[2], ring[1], ring[3], ring[4]], ring[:1] + ring[2:], ring[:2] + ring[3:],
            ring[:3] + ring[4:], ring[:1] + ring[:0:-1], [ring[0], ring[1], ring[4]],
        ]:
            self.assertIs(self.looks(other), False, other)

    def test_a_child_begun_with_twice(self):
        self.assertIs(self.looks(self.RING + self.RING), False)
        self.assertIs(self.looks(self.RING * 300), False)
        self.assertIs(self.looks([self.RING[0]] + self.RING), False)

    def test_a_want_that_goes_back_where_it_came_from(self):
        house = house_of([("", ("a", "b"))], [], [], [("first", "a")])
        ring = [("tie", "b", "a"), ("first", "a", "b")]
        self.assertIs(is_tie_ring(house, "b", "a", ring), True)
        self.assertIs(is_tie_ring(house, "a", "b", [("tie", "a", "b"), ("first", "b", "a")]), False)
        self.assertIs(is_tie_ring(house, "a", "b", [("tie", "a", "b"), ("first", "a", "b")]), False)


class WantRingTest(unittest.TestCase):
    def test_other_right_ones(self):
        for ring in [
            [("first", "b", "g"), ("tie", "p", "b")], [("first", "b", "g"), ("tie", "q", "b")],
            [("first", "b", "z"), ("tie", "z", "q"), ("tie", "p", "b")],
            [("first", "b", "z"), ("tie", "z", "p"), ("tie", "q", "b")],
        ]:
            self.assertIs(is_want_ring(LINE, "first", "b", ring), True, ring)
        for ring in [
            [("last", "h", "b"), ("tie", "b", "s")], [("last", "h", "b"), ("tie", "b", "h")],
            [("last", "a", "b"), ("tie", "b", "s"), ("tie", "s", "a")],
            [("last", "a", "b"), ("tie", "b", "h"), ("tie", "h", "a")],
        ]:
            self.assertIs(is_want_ring(LINE, "last", "b", ring), True, ring)

    def test_others(self):
        for ring in [
            [], [("first", "b", "g")], [("tie", "p", "b")], [("tie", "p", "b"), ("first", "b", "g")],
            [("first", "g", "b"), ("tie", "b", "s")], [("last", "g", "b"), ("tie", "b", "s")],
            [("last", "h", "b"), ("tie", "b", "s")], [("first", "b", "z"), ("tie", "p", "b")],
            [("first", "b", "g"), ("tie", "b", "s")], [("first", "b", "b"), ("tie", "p", "b")],
            [("first", "b", "p"), ("tie", "p", "b")], [("first", "b", "x"), ("tie", "p", "b")],
            [("first", "b", "g"), ("first", "b", "g")], [("first", "b", "g"), ("tie", "g", "b")],
            [("first", "b", "g"), ("tie", "p", "b"), ("first", "b", "g"), ("tie", "p", "b")],
            [("first", "b", "a"), ("tie", "b", "h"), ("tie", "h", "a")], [("tie", "b", "g"), ("tie", "p", "b")],
            [("First", "b", "g"), ("tie", "p", "b")], [("first", "b", ""), ("tie", "p", "b")],
            [("first", "h", "b"), ("tie", "b", "h")], [("first", "b", "g"), ("tie", "p", "b"), ("tie", "b", "h")],
        ]:
            self.assertIs(is_want_ring(LINE, "first", "b", ring), False, ring)
        for ring in [
            [("last", "b", "h"), ("tie", "b", "s")], [("last", "h", "b"), ("tie", "s", "a")], [("last", "h", "b")],
            [("first", "b", "g"), ("tie", "p", "b")], [("last", "b", "b"), ("tie", "b", "s")],
            [("last", "s", "b"), ("tie", "b", "s")], [("last", "g", "b"), ("tie", "p", "b")],
            [("tie", "h", "b"), ("tie", "b", "s")],
        ]:
            self.assertIs(is_want_ring(LINE, "last", "b", ring), False, ring)

    def test_a_want_that_closes_no_ring_has_none(self):
        house = house_of([("", ("a", "b", "c"))], [("a", "b")], [], [("first", "a")])
        for ring in [
            [("last", "a", "c"), ("tie", "c", "a")], [("last", "a", "c"), ("first", "a", "c")],
            [("last", "b", "c"), ("last", "c", "b")], [("last", "b", "c"), ("first", "c", "b")],
        ]:
            self.assertIs(is_want_ring(house, "last", "c", ring), False, ring)


class GroupRingTest(unittest.TestCase):
    def test_other_right_ones(self):
        for members in (["z", "b"], ("b", "z")):
            for second, third in product("qp", repeat=2):
                self.assertIs(is_group_ring(LINE, members, [("tie", "z", second), ("tie", third, "b")]), True)
        longer = [("tie", "m", "z"), ("tie", "z", "y"), ("tie", "y", "n")]
        self.assertIs(is_group_ring(BRANCHES, ["n", "m"], longer), True)
        self.assertIs(is_group_ring(BRANCHES, ["n", "m", "x"], longer), True)

    def test_others(self):
        good = [("tie", "z", "q"), ("tie", "p", "b")]
        for ring in [
            [], good[:1], good[1:], good[::-1], good + good, good + [("tie", "b", "h")], [good[0], good[0]],
            [("tie", "z", "b"), good[1]], [("tie", "z", "g"), good[1]], [good[0], ("tie", "g", "b")],
            [good[0], ("tie", "b", "h")], [("tie", "b", "s"), ("tie", "s", "a")], [good[0], ("first", "g", "b")],
            [("first", "z", "g"), good[1]], [good[0], ("last", "g", "b")], [("", "z", "q"), good[1]],
        ]:
            self.assertIs(is_group_ring(LINE, ["z", "b"], ring), False, ring)
        self.assertIs(is_group_ring(LINE, ["z", "g", "b"], good), False)
        self.assertIs(is_group_ring(LINE, ["z", "g"], good[:1]), False)
        self.assertIs(is_group_ring(LINE, ["g", "b"], good), False)
        self.assertIs(is_group_ring(LINE, ["z", "h"], good), False)
        self.assertIs(is_group_ring(LINE, ["z", "h"], good + [("tie", "b", "s")]), True)

    def test_a_member_begun_with_twice(self):
        good = [("tie", "z", "q"), ("tie", "p", "b"), ("tie", "b", "s"), ("tie", "s", "a")]
        self.assertIs(is_group_ring(LINE, ["z", "a"], good), True)
        for members in (["z", "b", "a"], ["z", "g", "a"], ["z", "h", "a"], ["z", "b"], ["g", "a"]):
            self.assertIs(is_group_ring(LINE, members, good), False, members)

    def test_at_the_members_knot_alone(self):
        house = house_of([("", ("a", "g")), ("g", ("b", "c", "d"))], [("b", "c"), ("c", "d")], [], [])
        ring = [("tie", "b", "c"), ("tie", "c", "d")]
        self.assertIs(is_group_ring(house, ["b", "d"], ring), True)
        self.assertIs(is_group_ring(house, ["a", "g"], ring), False)

    def test_wants_of_members_are_no_steps(self):
        house = house_of([("", ("s", "a", "t"))], [("s", "a"), ("a", "t")], [], [("first", "s"), ("last", "t")])
        self.assertIs(is_group_ring(house, ["s", "t"], [("tie", "s", "a"), ("tie", "a", "t")]), True)
        for ring in [
            [("first", "s", "a"), ("tie", "a", "t")], [("tie", "s", "a"), ("last", "a", "t")],
            [("first", "s", "a"), ("last", "a", "t")], [("last", "s", "t"), ("tie", "a", "t")],
        ]:
            self.assertIs(is_group_ring(house, ["s", "t"], ring), False, ring)


class WhateverTest(unittest.TestCase):
    LOOKS = [
        (lambda ring: is_tie_ring(LINE, "b", "p", ring), [("tie", "b", "p"), ("tie", "p", "b")]),
        (lambda ring: is_want_ring(LINE, "first", "b", ring), [("first", "b", "g"), ("tie", "p", "b")]),
        (lambda ring: is_want_ring(LINE, "last", "b", ring), [("last", "h", "b"), ("tie", "b", "s")]),
        (lambda ring: is_group_ring(LINE, ["z", "b"], ring), [("tie", "z", "q"), ("tie", "p", "b")]),
    ]

    def test_other_forms(self):
        for looks, good in self.LOOKS:
            self.assertIs(looks(good), True)
            first, second = good
            for ring in [
                tuple(good), [list(first), second], [first, list(second)], [first + ("",), second], [first[:2], second],
                [first, second[:2]], [first, second + ("b",)], [good], good + [None], good + [()], good + [[]],
                good + [""],
                {0: first, 1: second}, dict(enumerate(good)), first, " ".join(first), "", "tie", 0, 1, 2, None, True,
                False,
                (), {}, [None, None], [first, None], [None, second], [first, 0], [True, second], [first, {}],
                [first, ()],
                [first, "tie"], ["tie", second], [first, ("tie", ["p"], "b")], [first, (["tie"], "p", "b")],
                [first, ("tie", "p", None)], [first, ("tie", 0, "b")], [(None,) + first[1:], second],
                [first[:1] + ({},) + first[2:], second], [first[:2] + ([],), second], [first, second, second],
            ]:
                self.assertIs(looks(ring), False, repr(ring))

    def test_whatever_thing_in_each_place(self):
        for looks, good in self.LOOKS:
            first, second = good
            for thing in strange_things():
                rings = [thing, [thing], [thing, thing], [first, thing], [thing, second], good + [thing]]
                for place in range(3):
                    rings.append([first[:place] + (thing,) + first[place + 1:], second])
                    rings.append([first, second[:place] + (thing,) + second[place + 1:]])
                for ring in rings:
                    self.assertIs(looks(ring), False, repr(ring))


class OwnTest(unittest.TestCase):
    def test_what_is_handed_in_stays(self):
        members, ring = ["b", "z"], [("tie", "z", "q"), ("tie", "p", "b")]
        ring_of_group(LINE, members)
        is_group_ring(LINE, members, ring)
        is_tie_ring(LINE, "b", "p", ring)
        is_want_ring(LINE, "first", "b", ring)
        self.assertEqual((members, ring), (["b", "z"], [("tie", "z", "q"), ("tie", "p", "b")]))

    def test_own_lists(self):
        for ask in (lambda: ring_of_tie(LINE, "b", "p"), lambda: ring_of_want(LINE, "first", "b"),
                    lambda: ring_of_want(LINE, "last", "b"), lambda: ring_of_group(LINE, ["z", "b"])):
            kept = list(ask())
            ask().append("z")
            ask().reverse()
            self.assertEqual(ask(), kept)


if __name__ == "__main__":
    unittest.main()
