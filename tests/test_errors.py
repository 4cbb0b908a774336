import unittest

from tiechances import errors

NAMES = (
    "NoWeb", "NoLot", "NoPlaces", "NoPlace", "NoTie", "NoChance", "NoChances",
    "NoPaper", "TooMany", "NoText", "NoLine", "NoDeed",
)


class Errors(unittest.TestCase):
    def test_the_base_is_straight_under_value_error(self):
        self.assertEqual(errors.ChanceError.__bases__, (ValueError,))

    def test_each_refusal_is_straight_under_the_base(self):
        for name in NAMES:
            with self.subTest(name):
                refusal = getattr(errors, name)
                self.assertEqual(refusal.__name__, name)
                self.assertEqual(refusal.__bases__, (errors.ChanceError,))

    def test_the_refusals_are_unlike_classes(self):
        self.assertEqual(len({getattr(errors, name) for name in NAMES}), 12)

    def test_each_is_made_with_a_text(self):
        for name in NAMES + ("ChanceError",):
            with self.subTest(name):
                self.assertEqual(str(getattr(errors, name)("a text")), "a text")


if __name__ == "__main__":
    unittest.main()
