import unittest
from itertools import permutations, product

from orderkeep.errors import Ring
from orderkeep.moves import lets_moves, moved, moves_of
from orderkeep.orders import is_order
from orderkeep.rings import ring_by
from orderkeep.stretch import stretch
from orderkeep.webs import web_of
from tests.samples import forward_ties, many_names, plain_moves_let, strange_things
from tests.test_stretch import ORDER, WEB, each_tie_laid

TOLD = [("b", 1, 4), ("c", 2, 1), ("d", 3, 5), ("e", 4, 2), ("f", 5, 3)]


def with_tie(web, one, other):
    return (web[0], web[1] + ((one, other),))


def led_by_the_words(web, order, one, other):
    """Where the stretch leads: its places taken by the back ones, then by the forward ones."""
    back, forward = stretch(web, order, one, other)
    places = sorted(order.index(thing) for thing in back + forward)
    row = list(order)
    for place, thing in zip(places, back + forward):
        row[place] = thing
    return row


class MovesOfTest(unittest.TestCase):
    def test_by_old_places(self):
        self.assertEqual(moves_of(WEB, ORDER, "f", "b"), TOLD)
        self.assertEqual(moves_of(WEB, ORDER, "c", "b"), [("b", 1, 2), ("c", 2, 1)])
        self.assertEqual(moves_of(WEB, ORDER, "g", "e"), [("e", 4, 5), ("f", 5, 6), ("g", 6, 4)])

    def test_none_where_the_tie_goes_forward(self):
        self.assertEqual(moves_of(WEB, ORDER, "a", "g"), [])
        for one, other in WEB[1]:
            self.assertEqual(moves_of(WEB, ORDER, one, other), [])

    def test_all_orders_of_webs_of_four_things(self):
        for web, order, one, other in each_tie_laid(["b", "d", "a", "c"], 3):
            ring = ring_by(web, one, other)
            if ring is not None:
                with self.assertRaises(Ring) as caught:
                    moves_of(web, order, one, other)
                self.assertEqual(caught.exception.ring, ring)
                continue
            told = moves_of(web, order, one, other)
            self.assertEqual(moved(order, told), led_by_the_words(web, order, one, other))
            self.assertIs(is_order(with_tie(web, one, other), moved(order, told)), True)
            self.assertIs(lets_moves(web, order, one, other, told), True)
            back, forward = stretch(web, order, one, other)
            self.assertEqual(sorted(thing for thing, old, new in told), sorted(back + forward))
            self.assertEqual([old for thing, old, new in told], sorted(old for thing, old, new in told))
            for thing, old, new in told:
                self.assertEqual(order[old], thing)
                self.assertEqual(new < old, thing in back)
                self.assertEqual(new > old, thing in forward)

    def test_refused_as_the_stretch_is(self):
        for one, other, ring in [("d", "a", ["d", "a", "b"]), ("f", "c", ["f", "c"]), ("b", "b", ["b"])]:
            with self.assertRaises(Ring) as caught:
                moves_of(WEB, ORDER, one, other)
            self.assertEqual(caught.exception.__class__, Ring)
            self.assertEqual(caught.exception.ring, ring)

    def test_great_webs(self):
        names = many_names(60)
        ties = list(zip(names[:30], names[1:30])) + list(zip(names[30:], names[31:]))
        web = web_of(names[::-1], ties)
        told = moves_of(web, names, names[59], names[0])
        self.assertEqual(told, [(name, k, (k + 30) % 60) for k, name in enumerate(names)])
        self.assertEqual(moved(names, told), names[30:] + names[:30])
        self.assertIs(lets_moves(web, names, names[59], names[0], told), True)
        full = web_of(names, forward_ties(names, 400))
        self.assertEqual(moves_of(full, names, names[0], names[59]), [])


class LetsMovesTest(unittest.TestCase):
    def lets(self, told):
        return lets_moves(WEB, ORDER, "f", "b", told)

    def test_those_told_and_other_ones_that_fit(self):
        self.assertIs(self.lets(TOLD), True)
        self.assertIs(self.lets(TOLD[::-1]), True)
        self.assertIs(self.lets([("a", 0, 0)] + TOLD), True)
        # f and what reaches it go ahead of all others, in an order of their own
        other = [("a", 0, 3), ("b", 1, 4), ("c", 2, 1), ("d", 3, 5), ("e", 4, 0), ("f", 5, 2)]
        self.assertIs(self.lets(other), True)
        self.assertEqual(moved(ORDER, other), ["e", "c", "f", "a", "b", "d", "g"])

    def test_where_the_tie_goes_forward_already(self):
        self.assertIs(lets_moves(WEB, ORDER, "a", "g", []), True)
        self.assertIs(lets_moves(WEB, ORDER, "a", "g", [("c", 2, 2)]), True)
        self.assertIs(lets_moves(WEB, ORDER, "a", "g", [("d", 3, 2), ("c", 2, 3)]), True)
        self.assertIs(lets_moves(WEB, ORDER, "a", "b", []), True)
        self.assertIs(lets_moves(WEB, ORDER, "b", "a", []), False)
        self.assertIs(lets_moves(WEB, ORDER, "a", "a", []), False)

    def test_each_permutation_of_some_things_by_the_words(self):
        web = web_of(["d", "c", "b", "a"], [("a", "c"), ("b", "d")])
        order = ["a", "b", "c", "d"]
        for one, other in product(order, repeat=2):
            for count in range(5):
                for some in permutations(range(4), count):
                    for news in permutations(some):
                        told = [(order[old], old, new) for old, new in zip(some, news)]
                        by_words = plain_moves_let(web, order, one, other, told)
                        self.assertIs(lets_moves(web, order, one, other, told), by_words, (one, other, told))
                        if by_words:
                            self.assertIs(is_order(with_tie(web, one, other), moved(order, told)), True)

    def test_each_short_list_of_moves_by_the_words(self):
        web = web_of(["c", "b", "a"], [("a", "c")])
        order = ["b", "a", "c"]
        each = list(product(order, range(-1, 4), range(-1, 4)))
        for told in [[move] for move in each] + [list(pair) for pair in product(each, repeat=2)]:
            for one, other in (("a", "b"), ("b", "c")):
                by_words = plain_moves_let(web, order, one, other, told)
                self.assertIs(lets_moves(web, order, one, other, told), by_words, (one, other, told))

    def test_a_tie_that_goes_back(self):
        # the tie handed in alone, then a tie of the web alone
        self.assertIs(self.lets([]), False)
        self.assertIs(self.lets([("c", 2, 3), ("d", 3, 2)]), False)
        self.assertIs(self.lets([("b", 1, 5), ("f", 5, 1)]), False)
        self.assertIs(lets_moves(WEB, ORDER, "c", "b", [("b", 1, 2), ("c", 2, 1)]), True)
        self.assertIs(lets_moves(WEB, ORDER, "c", "b", [("b", 1, 3), ("d", 3, 1)]), False)
        self.assertIs(lets_moves(WEB, ORDER, "c", "b", [("b", 1, 3), ("c", 2, 1), ("d", 3, 2)]), False)
        self.assertIs(lets_moves(WEB, ORDER, "c", "a", [("a", 0, 2), ("c", 2, 0)]), False)

    def test_a_tie_that_would_close_a_ring(self):
        web = web_of(["a", "b"], [("a", "b")])
        for told in ([], [("a", 0, 1), ("b", 1, 0)], [("a", 0, 0), ("b", 1, 1)]):
            self.assertIs(lets_moves(web, ["a", "b"], "b", "a", told), False)

    def test_a_thing_twice_a_wrong_old_news_that_are_not_the_olds(self):
        for told in [
            TOLD + TOLD[:1], TOLD + [("b", 4, 4)], TOLD[:4] + [("e", 4, 3)], TOLD[1:], TOLD[:-1],
            [("b", 4, 4)] + TOLD[1:], [("b", 0, 4)] + TOLD[1:], [("b", -6, 4)] + TOLD[1:], [("g", 1, 4)] + TOLD[1:],
            TOLD + [("g", -1, -1)], TOLD + [("g", 6, -1)], TOLD + [("g", 6, 0)], TOLD + [("g", 6, 7)],
            TOLD + [("g", 7, 7)], TOLD + [("g", 6, 5)], TOLD + [("x", 7, 7)], TOLD + [("x", 6, 6)], TOLD + [("", 6, 6)],
            TOLD + [("g", 10 ** 29, 10 ** 29)], [("b", 1, 4), ("c", 2, 1), ("d", 3, 4), ("e", 4, 2), ("f", 5, 3)],
        ]:
            self.assertIs(self.lets(told), False, told)
        self.assertIs(self.lets(TOLD + [("g", 6, 6)]), True)

    def test_truths_in_the_place_of_numbers(self):
        web = web_of(["a", "b"], [])
        self.assertIs(lets_moves(web, ["a", "b"], "b", "a", [("a", 0, 1), ("b", 1, 0)]), True)
        for told in [
            [("a", False, 1), ("b", 1, 0)], [("a", 0, True), ("b", 1, 0)], [("a", 0, 1), ("b", True, 0)],
            [("a", 0, 1), ("b", 1, False)], [("a", 0.0, 1), ("b", 1, 0)], [("a", 0, 1), ("b", 1, 0.0)],
            [("a", "0", 1), ("b", 1, 0)], [("a", 0, "1"), ("b", 1, 0)], [("a", None, 1), ("b", 1, 0)],
        ]:
            self.assertIs(lets_moves(web, ["a", "b"], "b", "a", told), False, told)

    def test_whatever_thing(self):
        for told in [
            tuple(TOLD), [list(move) for move in TOLD], {move[0]: move[1:] for move in TOLD}, TOLD[0], "bcdef", "", 0,
            1, None, True, (), {}, TOLD + [()], TOLD + [[]], TOLD + [("g",)], TOLD + [("g", 6)],
            TOLD + [("g", 6, 6, 6)], TOLD + [["g", 6, 6]], TOLD + ["g66"], TOLD + [None], TOLD + [{}], TOLD + [6],
            [TOLD],
            TOLD + [(["g"], 6, 6)],
            TOLD + [(6, "g", 6)], TOLD + [("g", [6], 6)], TOLD + [("g", 6, (6,))], TOLD + [(None, 6, 6)],
            TOLD + [(6, 6, 6)],
        ] + strange_things():
            self.assertIs(self.lets(told), False, repr(told))
        for thing in strange_things():
            for move in (thing, (thing, 6, 6), ("g", thing, 6), ("g", 6, thing), ("g", thing, thing), [thing] * 3):
                self.assertIs(self.lets(TOLD + [move]), False, repr(move))
                self.assertIs(self.lets([move]), False, repr(move))
        # nothing needs to move here, and yet these are no lists of moves
        for told in ((), "", {}, None, 0, False):
            self.assertIs(lets_moves(WEB, ORDER, "a", "b", told), False, repr(told))


class MovedTest(unittest.TestCase):
    def test_led(self):
        self.assertEqual(moved(ORDER, TOLD), ["a", "c", "e", "f", "b", "d", "g"])
        self.assertEqual(moved(ORDER, TOLD[::-1]), ["a", "c", "e", "f", "b", "d", "g"])
        self.assertEqual(moved(ORDER, []), ORDER)
        self.assertEqual(moved([], []), [])


class OwnTest(unittest.TestCase):
    def test_what_is_handed_in_stays_and_what_is_told_is_own(self):
        order, told = list(ORDER), list(TOLD)
        first = moves_of(WEB, order, "f", "b")
        lets_moves(WEB, order, "f", "b", told)
        rows = [moved(order, told), moved(order, [])]
        self.assertEqual((order, told), (ORDER, TOLD))
        first.clear()
        for row in rows:
            row.clear()
        self.assertEqual((order, told), (ORDER, TOLD))
        self.assertEqual(moves_of(WEB, order, "f", "b"), TOLD)
        self.assertEqual(moved(order, []), ORDER)


if __name__ == "__main__":
    unittest.main()
