import random
import unittest

from orderkeep import errors
from orderkeep.deeds import behind
from orderkeep.houses import EMPTY, is_house
from orderkeep.keeper import Keeper
from tests.deeds_by_words import made_deed
from tests.samples import strange_things
from tests.test_deeds import HOUSE, no_deeds
from tests.test_papers import WAITS


class KeeperCase(unittest.TestCase):
    def refuse(self, name, ask, *handed):
        with self.assertRaises(errors.OrderError) as caught:
            ask(*handed)
        self.assertEqual(caught.exception.__class__, getattr(errors, name))


class MadeTest(KeeperCase):
    def test_of_none_and_of_a_house(self):
        self.assertEqual(Keeper().house(), EMPTY)
        self.assertEqual(Keeper().house(), ((("", ()),), (), (), ()))
        for house in (HOUSE, WAITS, EMPTY):
            self.assertEqual(Keeper(house).house(), house)
            self.assertEqual(Keeper(house=house).house(), house)

    def test_of_none_it_does_as_of_the_empty_house(self):
        for keeper in (Keeper(), Keeper(EMPTY), Keeper(house=EMPTY)):
            keeper.do(("many", [("thing", "a", ""), ("group", "g", ["a"])]))
            self.assertEqual(keeper.house(), ((("", ("g",)), ("g", ("a",))), (), (), ()))
            keeper.undo()
            self.assertEqual(keeper.house(), EMPTY)
            self.refuse("NoUndo", keeper.undo)

    def test_nothing_to_undo_or_to_do_again(self):
        for keeper in (Keeper(), Keeper(HOUSE)):
            house = keeper.house()
            self.refuse("NoUndo", keeper.undo)
            self.refuse("NoRedo", keeper.redo)
            self.assertEqual(keeper.house(), house)

    def test_nothing_is_given_back(self):
        keeper = Keeper()
        self.assertIsNone(keeper.do(("thing", "a", "")))
        self.assertIsNone(keeper.undo())
        self.assertIsNone(keeper.redo())


class DoneTest(KeeperCase):
    DEEDS = [
        ("thing", "x", "g"), ("tie", "x", "b"), ("wait", "b", "x"), ("group", "k", ["x", "h"]), ("untie", "x", "b"),
        ("unwant", "last", "d"), ("want", "first", "b"), ("open", "k"), ("drop", "a"),
    ]

    def test_the_house_that_it_was_in_all(self):
        keeper, houses = Keeper(HOUSE), [HOUSE]
        for deed in self.DEEDS:
            keeper.do(deed)
            houses.append(behind(houses[-1], deed))
            self.assertEqual(keeper.house(), houses[-1])
        for turn in range(2):
            for house in houses[-2::-1]:
                keeper.undo()
                self.assertEqual(keeper.house(), house)
            self.refuse("NoUndo", keeper.undo)
            self.assertEqual(keeper.house(), HOUSE)
            for house in houses[1:]:
                keeper.redo()
                self.assertEqual(keeper.house(), house)
            self.refuse("NoRedo", keeper.redo)
            self.assertEqual(keeper.house(), houses[-1])

    def test_a_many_is_undone_as_one(self):
        keeper = Keeper(HOUSE)
        keeper.do(("many", self.DEEDS))
        led = keeper.house()
        keeper.undo()
        self.assertEqual(keeper.house(), HOUSE)
        keeper.redo()
        self.assertEqual(keeper.house(), led)

    def test_a_deed_that_changed_nothing_is_undone_as_one(self):
        keeper = Keeper(HOUSE)
        keeper.do(("drop", "a"))
        led = keeper.house()
        for deed in [("many", []), ("many", [("thing", "x", ""), ("drop", "x")])]:
            keeper.do(deed)
            self.assertEqual(keeper.house(), led)
        for turn in range(2):
            keeper.undo()
            self.assertEqual(keeper.house(), led)
        keeper.undo()
        self.assertEqual(keeper.house(), HOUSE)
        for turn in range(3):
            keeper.redo()
            self.assertEqual(keeper.house(), led)
        self.refuse("NoRedo", keeper.redo)
        # it ends what could be done again, too
        keeper.undo()
        keeper.do(("many", []))
        self.refuse("NoRedo", keeper.redo)

    def test_waiting_ties_that_were_let_in_wait_again(self):
        keeper = Keeper(WAITS)
        keeper.do(("drop", "a"))
        self.assertEqual(keeper.house()[2], ())
        keeper.undo()
        self.assertEqual(keeper.house(), WAITS)

    def test_a_new_deed_ends_what_could_be_done_again(self):
        keeper = Keeper()
        for name in "abc":
            keeper.do(("thing", name, ""))
        keeper.undo()
        keeper.undo()
        keeper.do(("thing", "d", ""))
        self.refuse("NoRedo", keeper.redo)
        self.assertEqual(keeper.house()[0], (("", ("a", "d")),))
        keeper.undo()
        self.assertEqual(keeper.house()[0], (("", ("a",)),))
        keeper.redo()
        self.assertEqual(keeper.house()[0], (("", ("a", "d")),))

    def test_undone_in_part_and_done_again_in_part(self):
        keeper = Keeper()
        for name in "abcd":
            keeper.do(("thing", name, ""))
        for call, row in [("undo", "abc"), ("undo", "ab"), ("redo", "abc"), ("undo", "ab"), ("undo", "a"),
                          ("redo", "ab"), ("redo", "abc"), ("redo", "abcd")]:
            getattr(keeper, call)()
            self.assertEqual(keeper.house()[0], (("", tuple(row)),))


class RefusedTest(KeeperCase):
    def test_refused_as_the_deed_is(self):
        for deed, name in [
            (("thing", "a", ""), "Twice"), (("drop", "x"), "NoUnit"), (("tie", "a", "a"), "Within"),
            (("untie", "b", "a"), "NoTie"), (("drop", "g"), "Full"), (("group", "k", ["a", "b"]), "Apart"),
            (("unwant", "last", "a"), "NoWant"), (("tie", "e", "a"), "Ring"), (("drop",), "NoDeed"),
            (("many", [("drop", "a"), ("drop", "a")]), "NoUnit"), (("many", [("drop", "a"), None]), "NoDeed"),
        ]:
            keeper = Keeper(HOUSE)
            self.refuse(name, keeper.do, deed)
            self.assertEqual(keeper.house(), HOUSE)
            self.refuse("NoUndo", keeper.undo)

    def test_it_changes_neither_what_can_be_undone_nor_what_can_be_done_again(self):
        for deed in [("drop", "g"), ("tie", "c", "a"), ("many", [("drop", "x"), ("drop", "x")])] + no_deeds()[:40]:
            keeper = Keeper(HOUSE)
            houses = [HOUSE]
            for good in [("thing", "x", ""), ("thing", "y", ""), ("thing", "z", "")]:
                keeper.do(good)
                houses.append(keeper.house())
            keeper.undo()
            with self.assertRaises(errors.OrderError):
                keeper.do(deed)
            self.assertEqual(keeper.house(), houses[2])
            keeper.redo()
            self.assertEqual(keeper.house(), houses[3])
            for house in houses[2::-1]:
                keeper.undo()
                self.assertEqual(keeper.house(), house)
            self.refuse("NoUndo", keeper.undo)

    def test_whatever_thing(self):
        keeper = Keeper(HOUSE)
        for thing in strange_things():
            self.refuse("NoDeed", keeper.do, thing)
        self.assertEqual(keeper.house(), HOUSE)

    def test_nothing_to_undo_leaves_what_can_be_done_again(self):
        keeper = Keeper()
        keeper.do(("thing", "a", ""))
        self.refuse("NoRedo", keeper.redo)
        keeper.undo()
        self.refuse("NoUndo", keeper.undo)
        keeper.redo()
        self.assertEqual(keeper.house()[0], (("", ("a",)),))


class OwnTest(KeeperCase):
    def test_two_keepers_side_by_side(self):
        one, other = Keeper(), Keeper()
        one.do(("thing", "a", ""))
        self.assertEqual(other.house(), EMPTY)
        self.refuse("NoUndo", other.undo)
        other.do(("thing", "b", ""))
        one.undo()
        self.assertEqual((one.house(), other.house()[0]), (EMPTY, (("", ("b",)),)))
        self.refuse("NoRedo", other.redo)
        one.redo()
        self.assertEqual(one.house()[0], (("", ("a",)),))
        # nor does one that is made later begin with what those have done
        self.assertEqual(Keeper().house(), EMPTY)
        self.assertEqual(EMPTY, ((("", ()),), (), (), ()))

    def test_a_deed_whose_lists_are_changed_later(self):
        keeper = Keeper(HOUSE)
        members = ["g", "e"]
        deeds = [("group", "k", members)]
        keeper.do(("many", deeds))
        led = keeper.house()
        members.clear()
        deeds.clear()
        self.assertEqual(keeper.house(), led)
        keeper.undo()
        keeper.redo()
        self.assertEqual(keeper.house(), led)
        self.assertIs(is_house(led), True)


class MadeFromASeedTest(unittest.TestCase):
    def test_as_a_list_of_houses_tells(self):
        for seed in range(12):
            chance = random.Random(seed)
            keeper, houses, place = Keeper(WAITS), [WAITS], 0
            for turn in range(80):
                call = chance.choice(("do", "do", "do", "undo", "redo"))
                if call == "do":
                    deed = made_deed(chance, houses[place], chance.choice(("m", "n", "o", "p")))
                    try:
                        led = behind(houses[place], deed)
                    except errors.OrderError as error:
                        with self.assertRaises(error.__class__):
                            keeper.do(deed)
                    else:
                        keeper.do(deed)
                        houses[place + 1:] = [led]
                        place += 1
                elif call == "undo" and place > 0:
                    keeper.undo()
                    place -= 1
                elif call == "redo" and place < len(houses) - 1:
                    keeper.redo()
                    place += 1
                self.assertEqual(keeper.house(), houses[place])


if __name__ == "__main__":
    unittest.main()
