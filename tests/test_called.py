"""Nothing hangs on how names are spelled: called otherwise, all is told alike but for names."""

import unittest
from itertools import product

from orderkeep.errors import Ring
from orderkeep.hanging import hangs
from orderkeep.orders import order_anew
from orderkeep.reach import aheads, behinds, way
from orderkeep.rings import ring_by, ring_of
from orderkeep.webs import nexts, priors, web_of
from tests.samples import all_webs

NAMES = {"a": "z", "b": "y", "c": "x"}


def called(thing):
    if isinstance(thing, (list, tuple)):
        return thing.__class__(called(part) for part in thing)
    return NAMES.get(thing, thing)


def anew(web):
    try:
        return order_anew(web)
    except Ring as error:
        return error.ring


class CalledTest(unittest.TestCase):
    def test_called_otherwise_all_is_told_alike(self):
        for web in all_webs(["b", "a", "c"], True):
            other_web = web_of(*called(web))
            for ask in (ring_of, anew):
                self.assertEqual(ask(other_web), called(ask(web)))
            for one in web[0]:
                for ask in (nexts, priors, behinds, aheads):
                    self.assertEqual(ask(other_web, NAMES[one]), called(ask(web, one)))
            for one, other in product(web[0], repeat=2):
                for ask in (way, ring_by, hangs):
                    self.assertEqual(ask(other_web, NAMES[one], NAMES[other]), called(ask(web, one, other)))


if __name__ == "__main__":
    unittest.main()
