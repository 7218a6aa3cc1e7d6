import copy
import unittest

from orderkeep.errors import NoWeb, Ring
from orderkeep.rings import ring_of
from orderkeep.together import together
from orderkeep.webs import web_of
from tests.samples import all_webs, forward_ties, many_names, plain_way


def plain_together(one, other):
    """By the words, of a first web without a ring; few enough things and ties."""
    things = one[0] + tuple(thing for thing in other[0] if thing not in one[0])
    ties, left = one[1], []
    for tie in other[1]:
        if tie in ties:
            continue
        back = plain_way((things, ties), tie[1], tie[0])
        if back is None:
            ties += (tie,)
        else:
            left.append((tie, [tie[0]] + back[:-1]))
    return ((things, ties), left)


class TogetherTest(unittest.TestCase):
    def test_things_and_ties_in_their_order(self):
        one = web_of(["c", "a"], [("c", "a")])
        other = web_of(["d", "a", "b", "c"], [("d", "b"), ("b", "c"), ("a", "d")])
        self.assertEqual(together(one, other), (
            (("c", "a", "d", "b"), (("c", "a"), ("d", "b"), ("b", "c"))), [(("a", "d"), ["a", "d", "b", "c"])]))
        self.assertEqual(together(web_of(["b"], []), web_of(["a"], [])), ((("b", "a"), ()), []))

    def test_ties_that_are_there_already(self):
        one = web_of(["a", "b", "c"], [("b", "c"), ("a", "b")])
        other = web_of(["c", "b", "a"], [("a", "b"), ("a", "c"), ("b", "c")])
        self.assertEqual(together(one, other), ((("a", "b", "c"), (("b", "c"), ("a", "b"), ("a", "c"))), []))
        self.assertEqual(together(one, one), (one, []))

    def test_left_ones_each_with_the_ring_by_it_as_the_ties_were_then(self):
        one = web_of(["a", "b", "c"], [("a", "b")])
        other = web_of(["a", "b", "c"], [("b", "a"), ("b", "c"), ("c", "a"), ("a", "c"), ("c", "b")])
        self.assertEqual(together(one, other), ((("a", "b", "c"), (("a", "b"), ("b", "c"), ("a", "c"))), [
            (("b", "a"), ["b", "a"]), (("c", "a"), ["c", "a", "b"]), (("c", "b"), ["c", "b"])]))
        # when (c, a) came there was no tie (a, c) yet, and so its ring goes by b
        later = web_of(["a", "b", "c"], [("b", "c"), ("a", "c"), ("c", "a")])
        self.assertEqual(together(one, later)[1], [(("c", "a"), ["c", "a"])])

    def test_the_ring_by_places_of_the_web_told(self):
        one = web_of(["s", "z", "a", "t"], [("s", "a"), ("a", "t"), ("s", "z"), ("z", "t")])
        other = web_of(["t", "a", "z", "s"], [("t", "s")])
        self.assertEqual(together(one, other), (one, [(("t", "s"), ["t", "s", "z"])]))
        loose = web_of(["t"], [])
        more = web_of(["y", "t", "x"], [("t", "x"), ("x", "t"), ("t", "y"), ("y", "t")])
        self.assertEqual(together(loose, more), ((("t", "y", "x"), (("t", "x"), ("t", "y"))), [
            (("x", "t"), ["x", "t"]), (("y", "t"), ["y", "t"])]))

    def test_loops_in_the_second(self):
        other = web_of(["a", "b"], [("a", "a"), ("a", "b"), ("b", "b")])
        self.assertEqual(together(web_of(["a"], []), other), (
            (("a", "b"), (("a", "b"),)), [(("a", "a"), ["a"]), (("b", "b"), ["b"])]))

    def test_webs_without_things(self):
        bare, web = web_of([], []), web_of(["b", "a"], [("b", "a")])
        self.assertEqual(together(bare, bare), (bare, []))
        self.assertEqual(together(bare, web), (web, []))
        self.assertEqual(together(web, bare), (web, []))

    def test_all_webs_of_two_or_three_things_by_the_words(self):
        firsts = [web for web in all_webs(["b", "a"], False)] + list(all_webs(["c", "b", "a"], False))
        for one in firsts:
            if ring_of(one) is None:
                for number, other in enumerate(all_webs(["a", "d", "b"], True)):
                    if number % 3 == 0:
                        other = (other[0], other[1][::-1]) if number % 2 else other
                        self.assertEqual(together(one, other), plain_together(one, other), (one, other))


class RefusedTest(unittest.TestCase):
    def test_the_ring_of_the_first_web(self):
        names = many_names(120)
        ringed = web_of(["a", "b", "c"], [("a", "b"), ("c", "c"), ("b", "a")])
        for other in (web_of([], []), ringed, web_of(names[:60], [])):
            for turn in range(2):
                with self.assertRaises(Ring) as caught:
                    together(ringed, other)
                self.assertEqual(caught.exception.__class__, Ring)
                self.assertEqual(caught.exception.ring, ["a", "b"])
                caught.exception.ring.clear()
        self.assertEqual(together(web_of(["a"], []), web_of(["a", "b"], [("a", "b"), ("b", "a")]))[1],
                         [(("b", "a"), ["b", "a"])])

    def refuse(self, one, other):
        with self.assertRaises(NoWeb) as caught:
            together(one, other)
        self.assertEqual(caught.exception.__class__, NoWeb)

    def test_things_too_many(self):
        names = many_names(61)
        self.assertEqual(together(web_of(names[:30], []), web_of(names[30:60], []))[0], (tuple(names[:60]), ()))
        self.assertEqual(together(web_of(names[:60], []), web_of(names[:60], []))[0], (tuple(names[:60]), ()))
        self.refuse(web_of(names[:30], []), web_of(names[30:], []))
        self.refuse(web_of(names[:60], []), web_of(names[60:], []))
        self.refuse(web_of([], []), ((tuple(names)), ()))

    def test_ties_too_many(self):
        names = many_names(60)
        ties = forward_ties(names, 402)
        one = web_of(names, ties[:399])
        told, left = together(one, web_of(names, ties[390:400]))
        self.assertEqual((len(told[1]), left), (400, []))
        self.refuse(one, web_of(names, ties[390:401]))
        # those that are left are none of the web's
        back = [(other, first) for first, other in ties[:30]]
        told, left = together(one, web_of(names, ties[399:400] + back + [(names[0], names[0])]))
        self.assertEqual((len(told[1]), len(left)), (400, 31))
        self.refuse(one, web_of(names, back + ties[399:401]))

    def test_at_the_bounds(self):
        names = many_names(60)
        one = web_of(names, forward_ties(names, 400))
        other = web_of(names[::-1], [tie[::-1] for tie in forward_ties(names, 400)])
        told, left = together(one, other)
        self.assertEqual(told, one)
        self.assertEqual([tie for tie, ring in left], list(other[1]))
        self.assertEqual([ring for tie, ring in left], [list(tie) for tie in other[1]])


class OwnTest(unittest.TestCase):
    def test_a_told_list_changed_changes_no_later_answer(self):
        one, other = web_of(["a", "b"], [("a", "b")]), web_of(["a", "b"], [("b", "a")])
        kept = copy.deepcopy(together(one, other))
        told = together(one, other)
        told[1][0][1].clear()
        told[1].clear()
        self.assertEqual(together(one, other), kept)
        self.assertEqual((one, other), ((("a", "b"), (("a", "b"),)), (("a", "b"), (("b", "a"),))))


if __name__ == "__main__":
    unittest.main()
