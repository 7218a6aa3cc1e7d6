import copy
import unittest
from itertools import islice, permutations, product

from orderkeep.checker import led_to, lets_by
from orderkeep.errors import OrderError
from orderkeep.houses import house_of, is_house
from orderkeep.papers import paper_of
from tests.deeds_by_words import all_deeds, plain_by_row, plain_gone, plain_grouped, plain_led, plain_row_lets
from tests.houses_by_words import (
    all_steps, is_good_by_words, made_houses, plain_parting, steps_of_want, units_of)
from tests.samples import forward_ties, many_names, strange_things
from tests.test_deeds import DEEDS, HOUSE, MANY, no_deeds, too_deep
from tests.test_papers import ROW, WAITS

LAY = ("lay", "f", "b", [("b", 1, 4), ("c", 2, 1), ("d", 3, 5), ("e", 4, 2), ("f", 5, 3)])
RING = ("ring", "d", "a", [("tie", "d", "a"), ("tie", "a", "b"), ("tie", "b", "d")])


class CheckerCase(unittest.TestCase):
    def let(self, house, deed, paper, *parts):
        """Let by, and it leads to this good house."""
        self.assertIs(lets_by(house, deed, paper), True, (deed, paper))
        told = led_to(house, deed, paper)
        self.assertEqual(told, tuple(tuple(part) for part in parts), (deed, paper))
        self.assertIs(is_house(told), True)

    def stop(self, house, deed, *papers):
        for paper in papers:
            self.assertIs(lets_by(house, deed, paper), False, (deed, paper))


class NoRowsTest(CheckerCase):
    def test_of_a_thing_and_an_untie_of_a_waiting_tie(self):
        self.let(HOUSE, ("thing", "x", ""), [], (("", ("a", "g", "x", "e")),) + HOUSE[0][1:], *HOUSE[1:])
        self.let(HOUSE, ("untie", "e", "b"), [], *HOUSE[:2], HOUSE[2][1:], HOUSE[3])
        rest = ("ring", "d", "b", [("tie", "d", "b"), ("tie", "b", "d")])
        for deed in [("thing", "x", ""), ("untie", "e", "b")]:
            self.stop(HOUSE, deed, (), "", {}, None, False, 0, [()], [[]], [None], [rest])
            self.stop(HOUSE, deed, [("place", ["a", "g", "x", "e"])])

    def test_of_what_goes_where_none_waits(self):
        self.let(ROW, ("untie", "a", "b"), [], ROW[0], (ROW[1][0],) + ROW[1][2:], (), ())
        for deed in [("untie", "a", "b"), ("drop", "a")]:
            self.stop(ROW, deed, (), [()], [("lay", "a", "b", [])], [[]], [("place", list("abcdef"))], None)


class TieTest(CheckerCase):
    def test_other_moves_that_are_let_by(self):
        # f and what reaches it go ahead of all others
        other = [("a", 0, 3), ("b", 1, 4), ("c", 2, 1), ("d", 3, 5), ("e", 4, 0), ("f", 5, 2)]
        for word in ("tie", "wait"):
            self.let(ROW, (word, "f", "b"), [LAY], [("", tuple("acefbd"))], ROW[1] + (("f", "b"),), (), ())
            self.let(ROW, (word, "f", "b"), [LAY[:3] + (LAY[3][::-1],)], [("", tuple("acefbd"))],
                     ROW[1] + (("f", "b"),), (), ())
            self.let(ROW, (word, "f", "b"), [LAY[:3] + (other,)], [("", tuple("ecfabd"))],
                     ROW[1] + (("f", "b"),), (), ())
            # nothing needs to move, and yet it may
            self.let(ROW, (word, "a", "f"), [("lay", "a", "f", [("c", 2, 3), ("d", 3, 2)])], [("", tuple("abdcef"))],
                     ROW[1] + (("a", "f"),), (), ())

    def test_moves_are_of_the_children(self):
        told = (HOUSE[0][0], ("g", ("h", "b", "d")), HOUSE[0][2])
        moves = [("b", 0, 1), ("h", 1, 0)]
        self.let(HOUSE, ("tie", "c", "b"), [("lay", "c", "b", moves)], told, HOUSE[1] + (("c", "b"),), *HOUSE[2:])
        self.stop(HOUSE, ("tie", "c", "b"), [("lay", "h", "b", moves)], [("lay", "c", "b", [("b", 0, 1), ("c", 1, 0)])])

    def test_other_rings(self):
        two = house_of([("", ("a", "g", "b")), ("g", ("p", "q"))], [("a", "p"), ("a", "q"), ("p", "b"), ("g", "b")],
                       [], [("first", "a")])
        for second, third in product([("tie", "a", "p"), ("tie", "a", "q"), ("first", "a", "g")],
                                     [("tie", "p", "b"), ("tie", "g", "b")]):
            row = ("ring", "b", "a", [("tie", "b", "a"), second, third])
            self.let(two, ("tie", "b", "a"), [row], *two)
            self.let(two, ("wait", "b", "a"), [row], *two[:2], (("b", "a"),), two[3])
        self.let(two, ("tie", "b", "a"), [("ring", "b", "a", [("tie", "b", "a"), ("first", "a", "b")])], *two)
        wrong = [("tie", "b", "a"), ("tie", "a", "p"), ("first", "g", "b")]
        self.stop(two, ("tie", "b", "a"), [("ring", "b", "a", wrong)])

    def test_a_wait_goes_behind_all_that_wait(self):
        ring = [("tie", "e", "a"), ("first", "a", "g"), ("tie", "g", "e")]
        self.let(HOUSE, ("wait", "e", "a"), [("ring", "e", "a", ring)], *HOUSE[:2], HOUSE[2] + (("e", "a"),), HOUSE[3])
        self.let(HOUSE, ("tie", "e", "a"), [("ring", "e", "a", ring)], *HOUSE)

    def test_rows_too_many_or_too_few(self):
        for word in ("tie", "wait"):
            self.stop(ROW, (word, "f", "b"), [], [LAY, LAY], [LAY, ()], [LAY, None], [LAY, ("place", list("acefbd"))])
            self.stop(ROW, (word, "d", "a"), [], [RING, RING], [RING, ("lay", "d", "a", [])])

    def test_another_word_another_tie(self):
        moves, ring = LAY[3], RING[3]
        for word in ("tie", "wait"):
            self.stop(
                ROW, (word, "f", "b"), [RING], [("ring", "f", "b", moves)], [("Lay", "f", "b", moves)],
                [("place", moves)], [("lay", "b", "f", moves)], [("lay", "f", "d", moves)], [("lay", "e", "b", moves)],
                [("", "f", "b", moves)], [("move", "f", "b", moves)], [("tie", "f", "b", moves)], [("bar", moves)],
                [("lay", "f", "b")], [("lay", "f", "b", moves, moves)], [("lay", ("f", "b"), moves)], [("lay", moves)],
                [("f", "b", moves)], [("lay", "f", "b", moves, ())], [list(LAY)], [[LAY]], [(LAY,)], LAY, [moves])
            self.stop(
                ROW, (word, "d", "a"), [LAY], [("lay", "d", "a", ring)], [("bar", ring)], [("ring", "a", "d", ring)],
                [("ring", "d", "b", ring)], [("ring", "d", "a")], [("ring", "d", "a", ring, [])], [("ring", ring)],
                [list(RING)], [ring], ring, RING)

    def test_moves_and_rings_that_are_not_let_by(self):
        for word in ("tie", "wait"):
            for moves in [
                [], LAY[3][1:], LAY[3] + LAY[3][:1], tuple(LAY[3]), [("b", 1, 5), ("f", 5, 1)], None, "", {}, 0, (),
                [("b", 1, 5), ("c", 2, 1), ("d", 3, 4), ("e", 4, 2), ("f", 5, 3)], [list(move) for move in LAY[3]],
            ]:
                self.stop(ROW, (word, "f", "b"), [("lay", "f", "b", moves)])
                self.stop(ROW, (word, "d", "a"), [("lay", "d", "a", moves)])
            for ring in [
                [], RING[3][:1], RING[3][1:], RING[3][:2], RING[3][::-1], tuple(RING[3]), RING[3] + RING[3],
                [("tie", "d", "a"), ("tie", "b", "d"), ("tie", "a", "b")], None, "", {}, 0, (), RING[3] + [()],
                [("tie", "d", "a"), ("tie", "a", "d")], [list(step) for step in RING[3]],
            ]:
                self.stop(ROW, (word, "d", "a"), [("ring", "d", "a", ring)])
                self.stop(ROW, (word, "f", "b"), [("ring", "f", "b", ring)])


class GoneTest(CheckerCase):
    def test_other_moves_for_waiting_ties(self):
        first = ("lay", "c", "x", [("x", 0, 3), ("a", 1, 0), ("b", 2, 1), ("c", 3, 2)])
        kept = (("a", "b"), ("a", "c"), ("c", "x"), ("b", "x"))
        self.let(WAITS, ("untie", "x", "a"), [first, ("lay", "b", "x", [])], [("", tuple("abcx"))], kept, (), ())
        swap = ("lay", "b", "x", [("b", 1, 2), ("c", 2, 1)])
        self.let(WAITS, ("untie", "x", "a"), [first, swap], [("", tuple("acbx"))], kept, (), ())

    def test_rings_and_lays(self):
        ring = ("ring", "c", "x", [("tie", "c", "x"), ("tie", "x", "a"), ("tie", "a", "c")])
        lay = ("lay", "b", "x", [("x", 0, 1), ("a", 1, 2), ("b", 2, 0)])
        kept = (("x", "a"), ("a", "c"), ("b", "x"))
        self.let(WAITS, ("untie", "a", "b"), [ring, lay], [("", tuple("bxac"))], kept, (("c", "x"),), ())
        self.stop(
            WAITS, ("untie", "a", "b"), [], [ring], [lay], [lay, ring], [ring, lay, lay], [ring, ring], [lay, lay],
            [ring, lay, ()], [ring, None], [None, lay], (ring, lay), [(ring, lay)], [[ring, lay]], [ring, list(lay)],
            [ring, ("lay", "b", "x", [])], [("lay", "c", "x", []), lay], [("place", list("bxac")), ring, lay],
            [ring, ("lay", "c", "x", lay[3])], [("ring", "b", "x", ring[3]), lay])

    def test_each_by_the_house_as_the_rows_ahead_left_it(self):
        row = ("d", "v", "p", "q", "c", "u")
        ties = (("d", "p"), ("v", "p"), ("p", "q"), ("q", "c"), ("q", "u"), ("v", "c"), ("d", "u"))
        house = house_of([("", row)], ties, [("c", "d"), ("u", "v")], [])
        deed, left = ("untie", "p", "q"), ties[:2] + ties[3:]
        lay = ("lay", "c", "d", [("d", 0, 3), ("v", 1, 0), ("p", 2, 4), ("q", 3, 1), ("c", 4, 2)])
        ring = ("ring", "u", "v", [("tie", "u", "v"), ("tie", "v", "c"), ("tie", "c", "d"), ("tie", "d", "u")])
        self.let(house, deed, [lay, ring], [("", tuple("vqcdpu"))], left + (("c", "d"),), (("u", "v"),), ())
        # what was no ring by the house as it was, and what went is no step
        gone = [("tie", "u", "v"), ("tie", "v", "p"), ("tie", "p", "q"), ("tie", "q", "u")]
        alone = ("lay", "u", "v", [("v", 1, 3), ("p", 2, 4), ("q", 3, 1), ("c", 4, 5), ("u", 5, 2)])
        other = [("tie", "c", "d"), ("tie", "d", "p"), ("tie", "p", "q"), ("tie", "q", "c")]
        self.stop(house, deed, [lay, ("ring", "u", "v", gone)], [lay, alone], [ring, lay], [alone, lay],
                  [("ring", "c", "d", other), alone])

    def test_what_goes_is_gone(self):
        # the waiting ties of what is dropped have no rows
        ring = ("ring", "b", "x", [("tie", "b", "x"), ("tie", "x", "a"), ("tie", "a", "b")])
        self.let(WAITS, ("drop", "c"), [ring], [("", tuple("xab"))], [("x", "a"), ("a", "b")], [("b", "x")], [])
        self.stop(WAITS, ("drop", "c"), [], [("lay", "c", "x", []), ring],
                  [("ring", "c", "x", [("tie", "c", "x"), ("tie", "x", "a"), ("tie", "a", "c")]), ring])
        first = ("ring", "e", "b", [("tie", "e", "b"), ("last", "b", "e")])
        second = ("ring", "d", "b", [("tie", "d", "b"), ("tie", "b", "d")])
        self.let(HOUSE, ("open", "g"), [first, second], [("", ("a", "b", "h", "d", "e")), ("h", ("c",))],
                 [("a", "c"), ("b", "d")], HOUSE[2], [("first", "a"), ("last", "e"), ("first", "c")])
        # g's tie went, and so did the want of d
        self.stop(HOUSE, ("open", "g"), [("ring", "e", "b", [("tie", "e", "b"), ("tie", "g", "e")]), second],
                  [first, ("ring", "d", "b", [("tie", "d", "b"), ("last", "b", "d")])])
        house = house_of([("", ("s", "a"))], [], [("a", "s")], [("first", "s")])
        self.let(house, ("unwant", "first", "s"), [("lay", "a", "s", [("s", 0, 1), ("a", 1, 0)])],
                 [("", ("a", "s"))], [("a", "s")], [], [])
        self.stop(house, ("unwant", "first", "s"), [], [("ring", "a", "s", [("tie", "a", "s"), ("first", "s", "a")])])


class WantTest(CheckerCase):
    def test_any_order_of_the_view_with_the_want(self):
        for row in ("cabdef", "ceabfd", "ceabdf", "caebfd"):
            self.let(ROW, ("want", "first", "c"), [("place", list(row))], [("", tuple(row))], ROW[1], (),
                     [("first", "c")])
        for row in ("acbdef", "cbadef", "cabde", "cabdeff", "cabdfe", "cabdex", "cabdefg", "ccabdef", ""):
            self.stop(ROW, ("want", "first", "c"), [("place", list(row))])
        self.let(ROW, ("want", "last", "d"), [("place", list("eacbfd"))], [("", tuple("eacbfd"))], ROW[1], (),
                 [("last", "d")])
        self.stop(ROW, ("want", "last", "d"), [("place", list("abdcef"))])

    def test_other_forms(self):
        good = list("cabdef")
        self.stop(
            ROW, ("want", "first", "c"), [], [("place", tuple(good))], [("place", "cabdef")], [("place", None)],
            [("place",)], [("place", good, good)], [("bar", good)], [("Place", good)], [["place", good]], [good], good,
            [("place", good), ("place", good)], (("place", good),), ("place", good), [("place", [good])],
            [("place", dict.fromkeys(good))], [("lay", "c", "a", [])], [("place", good), ()], [(good,)], [("", good)])

    def test_bars(self):
        ring = [("last", "d", "b"), ("tie", "b", "d")]
        self.let(ROW, ("want", "last", "b"), [("bar", ring)], *ROW)
        longer = [("last", "d", "a"), ("tie", "a", "b"), ("tie", "b", "d")]
        self.let(ROW, ("want", "last", "a"), [("bar", longer)], *ROW)
        self.let(ROW, ("want", "first", "f"), [("bar", [("first", "f", "e"), ("tie", "e", "f")])], *ROW)
        self.stop(
            ROW, ("want", "last", "b"), [("bar", ring[:1])], [("bar", ring[::-1])], [("bar", tuple(ring))], [("bar",)],
            [("bar", ring), ("bar", ring)], [("place", ring)], [("place", list("acdefb"))], [("bar", [])],
            [["bar", ring]], [("bar", [("first", "b", "a"), ("tie", "a", "b")])], [("ring", "b", "d", ring)],
            [("bar", ring, [])], [("ring", ring)], [("place", list("abcdef"))], [ring], ring)
        self.stop(ROW, ("want", "first", "b"), [("bar", ring)])
        self.stop(ROW, ("want", "last", "d"), [("bar", ring)])


class GroupTest(CheckerCase):
    def test_any_order_of_the_view_with_the_group(self):
        deed = ("group", "k", ["e", "b"])
        for row in ("ackdf", "ackfd", "cakdf", "akdcf", "akcdf"):
            self.let(ROW, deed, [("place", list(row))], [("", tuple(row)), ("k", ("b", "e"))], *ROW[1:])
        for row in (
            "kacdf", "acdkf", "ackd", "ackdff", "ackdfb", "ackdbe", "acedf", "akdfc", "abcdef", "ackdfx", "", "k",
        ):
            self.stop(ROW, deed, [("place", list(row))])
        good = list("ackdf")
        self.stop(
            ROW, deed, [], [("place", tuple(good))], [("place", "ackdf")], [("place",)], [("place", good, [])],
            [("bar", good)], [["place", good]], [good], good, [("place", good), ("place", good)], (("place", good),),
            [("place", good), ()], [("place", good), ("lay", "a", "b", [])], [("place", [good])], [("Place", good)])

    def test_waiting_ties_by_the_house_with_the_group(self):
        house = house_of([("", ("s", "a", "b"))], [], [("b", "s"), ("a", "s")], [("first", "s")])
        deed = ("group", "k", ["s", "a"])
        place, lay = ("place", ["k", "b"]), ("lay", "b", "s", [("k", 0, 1), ("b", 1, 0)])
        ring = ("ring", "a", "s", [("tie", "a", "s"), ("first", "s", "a")])
        told = ([("", ("b", "k")), ("k", ("s", "a"))], [("b", "s")], [("a", "s")], [("first", "s")])
        self.let(house, deed, [place, lay, ring], *told)
        self.let(house, deed, [("place", ["b", "k"]), ("lay", "b", "s", []), ring], *told)
        self.stop(
            house, deed, [place], [place, lay], [place, ring], [place, ring, lay], [lay, ring], [lay, ring, place],
            [place, lay, ring, ring], [("place", ["b", "k"]), lay, ring], [place, ("lay", "b", "s", []), ring],
            [place, ("lay", "b", "s", [("s", 0, 1), ("b", 1, 0)]), ring], [place, lay, ("lay", "a", "s", [])],
            [place, ("ring", "b", "s", [("tie", "b", "s"), ("first", "s", "b")]), ring], [place, lay, None],
            [place, lay, ("lay", "a", "s", [("s", 0, 1), ("a", 1, 0)])], [place, place, lay, ring])

    def test_bars(self):
        deed = ("group", "k", ["d", "a"])
        ring = [("tie", "a", "b"), ("tie", "b", "d")]
        self.let(ROW, deed, [("bar", ring)], *ROW)
        self.let(ROW, ("group", "k", ("a", "d")), [("bar", ring)], *ROW)
        self.stop(
            ROW, deed, [("bar", ring[:1])], [("bar", ring[::-1])], [("bar", tuple(ring))],
            [("bar", ring), ("bar", ring)], [("place", ring)], [("bar", [])], [("bar", ring, [])], [["bar", ring]],
            [("bar",)], [("ring", "a", "d", ring)],
            [("place", list("bckef"))], [("place", list("kbcef"))], [("bar", ring), ()], [("ring", ring)], [ring])
        self.stop(ROW, ("group", "k", ["b", "a"]), [("bar", ring)])
        # where a bar is shown the waiting ties have no rows
        house = house_of(*ROW[:2], [("b", "a")], [])
        wait = ("ring", "b", "a", [("tie", "b", "a"), ("tie", "a", "b")])
        self.let(house, deed, [("bar", ring)], *house)
        self.stop(house, deed, [("bar", ring), wait])


class RefusedTest(CheckerCase):
    def test_a_deed_that_is_refused_but_for_ring(self):
        for deed in [
            ("thing", "a", ""), ("thing", "x", "c"), ("tie", "a", "y"), ("wait", "g", "c"), ("tie", "a", "c"),
            ("wait", "e", "b"), ("untie", "b", "a"), ("drop", "h"), ("drop", "x"), ("group", "a", ["e"]),
            ("group", "k", ["a", "b"]), ("group", "k", ["a", "x"]), ("open", "c"), ("want", "first", "g"),
            ("unwant", "first", "b"),
        ]:
            ring = [("tie", "e", "b"), ("tie", "g", "e")]
            self.stop(HOUSE, deed, [], [("lay",) + deed[1:3] + ([],)], [("place", ["a", "g", "e"])], [("bar", ring)],
                      [("ring", "e", "b", ring)], [("ring",) + deed[1:3] + (ring,)])

    def test_too_many(self):
        names = many_names(60)
        full = house_of([("", tuple(names))], forward_ties(names, 200), [], [])
        one, other = names[1], names[0]
        self.stop(full, ("tie", one, other), [("ring", one, other, [("tie", one, other), ("tie", other, one)])])
        self.stop(full, ("wait", names[3], names[40]), [("lay", names[3], names[40], [])])
        self.stop(full, ("thing", "new", ""), [])
        self.stop(full, ("group", "new", names[:1]), [("place", ["new"] + names[1:])])

    def test_a_many_and_what_is_no_deed(self):
        lay = [("lay", "f", "b", LAY[3])]
        for deed in MANY + no_deeds() + too_deep() + strange_things() + [("many", [("tie", "f", "b")])]:
            self.stop(ROW, deed, [], lay)


def step_lists(house, first):
    """Short lists of steps of the house, that begin with such a step or with any."""
    steps = list(all_steps(house))
    return [first + list(some) for count in (0, 1, 2) for some in product(steps, repeat=count)]


def row_choices(house, tie):
    """Rows of a tie: all that its children could stand as, and short rings."""
    row = dict(house[0])[plain_parting(house, *tie)[0][0]]
    for some in permutations(row):
        yield ("lay", *tie, [(child, old, some.index(child)) for old, child in enumerate(row)])
    yield ("lay", *tie, [])
    for ring in step_lists(house, [("tie", *tie)]):
        yield ("ring", *tie, ring)


def rows_choices(house, ties):
    """Lists of rows for waiting ties: each first row, and behind one that is let by a few others."""
    if not ties:
        yield []
        return
    for row in row_choices(house, ties[0]):
        if plain_row_lets(house, ties[0], row):
            for rest in islice(rows_choices(plain_by_row(house, row), ties[1:]), 12):
                yield [row] + rest
        else:
            yield [row] + [("lay", *tie, []) for tie in ties[1:]]


def paper_choices(house, deed):
    """Papers for a deed that is not refused, but for Ring perhaps: right ones and others."""
    word, knots = deed[0], dict(house[0])
    if word in ("tie", "wait"):
        yield from ([row] for row in row_choices(house, deed[1:]))
    elif word == "want":
        row = [row for row in knots.values() if deed[2] in row][0]
        yield from ([("place", list(some))] for some in permutations(row))
        for first in steps_of_want(house, *deed[1:]):
            yield from ([("bar", ring)] for ring in step_lists(house, [first]))
    elif word == "group":
        grouped = plain_grouped(house, deed[1], deed[2])
        told = [(name, row) for name, row in grouped[0] if deed[1] in row][0]
        for some in permutations(told[1]):
            placed = (tuple((name, some if name == told[0] else row) for name, row in grouped[0]), *grouped[1:])
            for rows in islice(rows_choices(placed, grouped[2]), 15):
                yield [("place", list(some))] + rows
        yield from ([("bar", ring)] for ring in step_lists(house, []))
    elif word != "thing":
        yield from islice(rows_choices(plain_gone(house, deed), plain_gone(house, deed)[2]), 300)


def other_papers(paper):
    """A paper with a row left out, told twice, or two of them the other way round; and none."""
    for place in range(len(paper)):
        yield paper[:place] + paper[place + 1:]
        yield paper[:place] + paper[place:place + 1] + paper[place:]
    yield paper[::-1]
    yield []


class ByTheWordsTest(unittest.TestCase):
    def look(self, house, deed, paper):
        by_words = plain_led(house, deed, paper)
        self.assertIs(lets_by(house, deed, paper), by_words is not None, (house, deed, paper))
        if by_words is not None:
            self.assertEqual(led_to(house, deed, paper), by_words, (house, deed, paper))
            self.assertTrue(is_good_by_words(by_words), (house, deed, paper))

    def test_right_papers_and_others_of_small_houses(self):
        houses = [house for house in made_houses(150) if len(units_of(house)) in (3, 4) and len(all_steps(house)) > 2]
        houses += [house for house in made_houses(150) if len(units_of(house)) == 5 and len(house[2]) > 1][:4]
        for number, house in enumerate(houses):
            for deed in all_deeds(house)[number % 3::3]:
                try:
                    told = paper_of(house, deed)
                except OrderError:
                    self.look(house, deed, [])
                    continue
                self.look(house, deed, told)
                for paper in other_papers(told):
                    self.look(house, deed, paper)
                for paper in paper_choices(house, deed):
                    self.look(house, deed, paper)


class WhateverTest(CheckerCase):
    GOOD = [
        (ROW, ("tie", "f", "b"), [LAY]), (ROW, ("wait", "d", "a"), [RING]),
        (WAITS, ("untie", "x", "a"), paper_of(WAITS, ("untie", "x", "a"))),
        (ROW, ("want", "first", "c"), [("place", list("cabdef"))]),
        (ROW, ("want", "last", "b"), [("bar", [("last", "d", "b"), ("tie", "b", "d")])]),
        (ROW, ("group", "k", ["e", "b"]), [("place", list("ackdf"))]),
        (ROW, ("group", "k", ["d", "a"]), [("bar", [("tie", "a", "b"), ("tie", "b", "d")])]),
        (ROW, ("thing", "x", ""), []), (HOUSE, ("untie", "e", "b"), []), (ROW, ("drop", "a"), []),
    ]

    def test_whatever_thing_in_each_place(self):
        for house, deed, paper in self.GOOD:
            self.assertIs(lets_by(house, deed, paper), True)
            for thing in strange_things() + ["", "A", 0, 1, (), {}, dict(enumerate(paper)), tuple(paper)]:
                papers = [thing, [thing], paper + [thing], [paper], (paper,)]
                for place, row in enumerate(paper):
                    papers.append(paper[:place] + [thing] + paper[place + 1:])
                    for part in range(len(row)):
                        other = row[:part] + (thing,) + row[part + 1:]
                        papers.append(paper[:place] + [other] + paper[place + 1:])
                    for part in range(len(row[-1])):
                        other = row[-1][:part] + [thing] + row[-1][part + 1:]
                        papers.append(paper[:place] + [row[:-1] + (other,)] + paper[place + 1:])
                for other in papers:
                    self.assertIs(lets_by(house, deed, other), False, repr(other))


class OwnTest(unittest.TestCase):
    def test_what_is_handed_in_stays(self):
        for house, deed, paper in WhateverTest.GOOD:
            handed = copy.deepcopy((deed, paper))
            lets_by(house, *handed)
            told = led_to(house, *handed)
            self.assertEqual(handed, (deed, paper))
            # a house has no lists, so a list changed later changes nothing in it
            kept = copy.deepcopy(told)
            for row in handed[1]:
                row[-1].clear()
            handed[1].clear()
            self.assertEqual(told, kept)
            self.assertIs(is_house(told), True)

    def test_members_that_are_changed_later(self):
        members, order = ["e", "b"], list("ackdf")
        told = led_to(ROW, ("group", "k", members), [("place", order)])
        members.clear()
        order.clear()
        self.assertEqual(told[0], (("", tuple("ackdf")), ("k", ("b", "e"))))


if __name__ == "__main__":
    unittest.main()
