import unittest

from orderkeep import errors

PLAIN = [
    "NoWeb", "NoOrder", "NoWeights", "NoHouse", "NoDeed", "Twice", "Within", "NoTie", "Full",
    "Apart", "NoWant", "TooMany", "NoUndo", "NoRedo", "Clash", "NoRow",
]
WITH_FIELD = [("NoText", "line", 3), ("Ring", "ring", ["a", "b"]), ("NoUnit", "name", "abc")]


class ErrorsTest(unittest.TestCase):
    def test_each_stands_straight_under_order_error(self):
        self.assertEqual(errors.OrderError.__bases__, (ValueError,))
        for name in PLAIN + [row[0] for row in WITH_FIELD]:
            self.assertEqual(getattr(errors, name).__bases__, (errors.OrderError,), name)

    def test_plain_ones_are_raised_and_taken(self):
        for name in PLAIN:
            error = getattr(errors, name)
            for made in (error(), error("words")):
                with self.assertRaises(error):
                    raise made

    def test_those_with_a_field_are_made_of_it(self):
        for name, field, value in WITH_FIELD:
            error = getattr(errors, name)
            with self.assertRaises(error) as caught:
                raise error(value)
            self.assertEqual(getattr(caught.exception, field), value)

    def test_a_ring_changed_later_changes_no_error(self):
        ring = ["a", "b"]
        error = errors.Ring(ring)
        ring.append("c")
        self.assertEqual(error.ring, ["a", "b"])
        error.ring.append("d")
        self.assertEqual(ring, ["a", "b", "c"])


if __name__ == "__main__":
    unittest.main()
