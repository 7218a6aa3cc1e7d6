"""What the document promises over the whole program, on long rows of deeds made from a seed."""

import copy
import random
import unittest
from collections import Counter
from itertools import product

from orderkeep.called import called
from orderkeep.checker import led_to, lets_by
from orderkeep.deeds import behind
from orderkeep.desk import Desk
from orderkeep.errors import OrderError, Ring
from orderkeep.houses import EMPTY, is_house, whole_order
from orderkeep.housetexts import read_house, show_house
from orderkeep.keeper import Keeper
from orderkeep.papers import paper_of
from orderkeep.steps import ring_of_tie
from orderkeep.trees import within
from tests.deeds_by_words import made_deed
from tests.houses_by_words import (
    is_good_by_words, is_group_ring_by_words, is_tie_ring_by_words, is_want_ring_by_words, plain_parting, plain_view,
    reaches, units_of)
from tests.samples import many_names

NAMES = many_names(18)
OTHERWISE = dict(zip(NAMES, many_names(60)[:30:-1]))


def made_rows(seeds, length):
    """Houses and deeds, each house the one behind the deed ahead where that was not refused."""
    for seed in seeds:
        chance = random.Random(seed)
        house = EMPTY
        for turn in range(length):
            deed = made_deed(chance, house, chance.choice(NAMES))
            try:
                led = behind(house, deed)
            except OrderError as error:
                yield house, deed, error
            else:
                yield house, deed, led
                house = led


def is_ring_by_words(house, deed, ring):
    if deed[0] == "tie":
        return is_tie_ring_by_words(house, *deed[1:], ring)
    if deed[0] == "want":
        return is_want_ring_by_words(house, *deed[1:], ring)
    return is_group_ring_by_words(house, deed[2], ring)


def renamed(deed):
    """The deed, called otherwise."""
    parts = [[OTHERWISE.get(name, name) for name in part] if isinstance(part, list) else OTHERWISE.get(part, part)
             for part in deed[1:]]
    return (deed[0], *parts)


def rows_of(deed):
    """The deed as a row of the desk."""
    if deed[0] in ("want", "unwant"):
        return ("no" if deed[0] == "unwant" else "") + deed[1] + " " + deed[2]
    if deed[0] == "group":
        return " ".join(["group", deed[1]] + deed[2])
    return " ".join(part for part in deed if part)


class PromiseTest(unittest.TestCase):
    def test_the_rows_come_to_all_sorts_of_deeds(self):
        done, refused, let_in = Counter(), Counter(), 0
        for house, deed, led in made_rows(range(20), 120):
            if isinstance(led, OrderError):
                refused[led.__class__.__name__] += 1
            else:
                done[deed[0]] += 1
                let_in += len(set(house[2]) & set(led[1]))
        self.assertEqual(len(done), 9)
        self.assertGreater(min(done.values()), 15)
        for name in ("NoUnit", "Twice", "Within", "NoTie", "Full", "NoWant", "TooMany", "Ring"):
            self.assertGreater(refused[name], 0, name)
        self.assertGreater(refused["Ring"], 30)
        self.assertGreater(let_in, 10)

    def test_at_every_moment(self):
        for house, deed, led in made_rows(range(20), 120):
            if isinstance(led, OrderError):
                continue
            self.assertIs(is_house(led), True, (house, deed))
            self.assertTrue(is_good_by_words(led), (house, deed))
            order = whole_order(led)
            self.assertEqual(sorted(order), sorted(set(units_of(led)) - {knot for knot, row in led[0]}))
            # each kept tie goes forward: all that lies within its one stands ahead of all within its other
            for one, other in led[1]:
                for first, second in product(within(led, one), within(led, other)):
                    if first in order and second in order:
                        self.assertLess(order.index(first), order.index(second))
            for tie in led[2]:
                self.assertTrue(is_tie_ring_by_words(led, *tie, ring_of_tie(led, *tie)))

    def test_what_is_refused_with_ring(self):
        for house, deed, error in made_rows(range(20), 120):
            if isinstance(error, Ring):
                self.assertTrue(is_ring_by_words(house, deed, error.ring), (house, deed, error.ring))

    def test_each_deed_has_a_paper(self):
        for house, deed, led in made_rows(range(12), 120):
            if isinstance(led, OrderError) and not isinstance(led, Ring):
                with self.assertRaises(led.__class__):
                    paper_of(house, deed)
                self.assertIs(lets_by(house, deed, []), False)
                continue
            paper = paper_of(house, deed)
            self.assertIs(lets_by(house, deed, paper), True, (house, deed))
            self.assertEqual(led_to(house, deed, paper), house if isinstance(led, Ring) else led)

    def test_by_a_tie_only_things_between_its_two_ends_move(self):
        for house, deed, led in made_rows(range(20), 120):
            if deed[0] != "tie" or isinstance(led, OrderError):
                continue
            knot, one, other = plain_parting(house, *deed[1:])[0]
            for (name, old), (same, new) in zip(house[0], led[0]):
                self.assertEqual(name, same)
                if name != knot or old.index(one) < old.index(other):
                    self.assertEqual(old, new)
            old, new, web = dict(house[0])[knot], dict(led[0])[knot], plain_view(house, knot)
            for child in old:
                if old.index(one) > old.index(other):
                    between = old.index(other) <= old.index(child) <= old.index(one)
                    self.assertEqual(new.index(child) > old.index(child), between and reaches(web, other, child))
                    self.assertEqual(new.index(child) < old.index(child), between and reaches(web, child, one))

    def test_what_goes_lets_waiting_ties_in_by_their_order(self):
        for house, deed, led in made_rows(range(20), 120):
            if isinstance(led, OrderError):
                continue
            kept = [tie for tie in house[1] if tie in led[1]]
            let_in = [tie for tie in house[2] if tie in led[1]]
            if deed[0] in ("thing", "tie", "wait", "want"):
                self.assertEqual(let_in, [])
            if deed[0] not in ("tie", "wait"):
                self.assertEqual(led[1], tuple(kept + let_in))
                self.assertEqual(led[2], tuple(tie for tie in house[2] if tie in led[2]))
            # each of them closes no ring by what is kept then
            before = (led[0], tuple(kept), (), led[3])
            for tie in let_in:
                self.assertIsNone(ring_of_tie(before, *tie))
                before = (led[0], before[1] + (tie,), (), led[3])

    def test_what_is_taken_back_is_as_it_was(self):
        keeper, houses = Keeper(), [EMPTY]
        for house, deed, led in made_rows([3], 400):
            if isinstance(led, OrderError):
                with self.assertRaises(led.__class__):
                    keeper.do(deed)
            else:
                keeper.do(deed)
                houses.append(led)
            self.assertEqual(keeper.house(), houses[-1])
        for house in houses[-2::-1]:
            keeper.undo()
            self.assertEqual(keeper.house(), house)
        for house in houses[1:]:
            keeper.redo()
            self.assertEqual(keeper.house(), house)

    def test_called_otherwise_all_is_told_alike(self):
        for house, deed, led in made_rows(range(12), 120):
            other = called(house, OTHERWISE)
            if isinstance(led, OrderError):
                with self.assertRaises(led.__class__):
                    behind(other, renamed(deed))
            else:
                self.assertEqual(behind(other, renamed(deed)), called(led, OTHERWISE))
            self.assertEqual(whole_order(other), [OTHERWISE[name] for name in whole_order(house)])

    def test_the_desk_and_the_texts(self):
        desk = Desk()
        for house, deed, led in made_rows([5], 400):
            if isinstance(led, OrderError):
                with self.assertRaises(led.__class__):
                    desk.say(rows_of(deed))
                led = house
            else:
                waits = deed[0] == "wait" and deed[1:] in led[2]
                self.assertEqual(desk.say(rows_of(deed)), "waits" if waits else "ok")
            text = desk.say("house")
            self.assertEqual(text, show_house(led))
            self.assertEqual(read_house(text), led)
            self.assertEqual(desk.say("order"), " ".join(whole_order(led)))

    def test_what_is_handed_in_stays(self):
        for house, deed, led in made_rows(range(4), 120):
            handed = copy.deepcopy((house, deed))
            try:
                behind(*handed)
                paper = paper_of(*handed)
            except OrderError:
                continue
            finally:
                self.assertEqual(handed, (house, deed))
            kept = copy.deepcopy(paper)
            lets_by(*handed, paper)
            led_to(*handed, paper)
            self.assertEqual((handed, paper), ((house, deed), kept))


if __name__ == "__main__":
    unittest.main()
