import itertools
import unittest
from fractions import Fraction

from tests.samples import as_tuple
from tiechances.fracs import first_greatest, is_less, lack, lowest, minus, plus, product, times

FRACTIONS = ((0, 1), (1, 1), (1, 2), (2, 3), (3, 4), (5, 6), (999, 1000), (-1, 2), (-7, 3),
             (10 ** 24 - 1, 10 ** 24))


class Fracs(unittest.TestCase):
    def test_lowest(self):
        for top, bottom in itertools.product(range(-12, 13), range(1, 13)):
            self.assertEqual(lowest(top, bottom), as_tuple(Fraction(top, bottom)))

    def test_sums_and_products(self):
        for one, other in itertools.product(FRACTIONS, repeat=2):
            self.assertEqual(plus(one, other), as_tuple(Fraction(*one) + Fraction(*other)))
            self.assertEqual(times(one, other), as_tuple(Fraction(*one) * Fraction(*other)))

    def test_differences_and_which_is_less(self):
        for one, other in itertools.product(FRACTIONS, repeat=2):
            self.assertEqual(minus(one, other), as_tuple(Fraction(*one) - Fraction(*other)))
            self.assertIs(is_less(one, other), Fraction(*one) < Fraction(*other))

    def test_products_of_several(self):
        self.assertEqual(product([]), (1, 1))
        self.assertEqual(product([(2, 3)]), (2, 3))
        self.assertEqual(product([(2, 3), (3, 4), (-1, 2)]), (-1, 4))
        self.assertEqual(product([(2, 3), (0, 1), (3, 4)]), (0, 1))

    def test_the_first_of_the_greatest(self):
        self.assertIsNone(first_greatest([]))
        for fractions in itertools.product(FRACTIONS[:4] + FRACTIONS[-2:], repeat=3):
            values = [Fraction(*one) for one in fractions]
            self.assertEqual(first_greatest(fractions), values.index(max(values)))

    def test_what_lacks_to_1(self):
        for one in FRACTIONS:
            self.assertEqual(lack(one), as_tuple(1 - Fraction(*one)))


if __name__ == "__main__":
    unittest.main()
