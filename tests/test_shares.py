import unittest
from fractions import Fraction

from tests.samples import (
    ALIKE, APART, EMPTY, FULL, GREAT, HALVES, LONE, PATH, PRIMES, TRIANGLE, TWINS, Asking,
    as_tuple, chances_of, is_good, lots_of, no_chances, no_lots, no_places, no_webs,
    places_of, plainly_none, reached, small_webs, summed_share, walked_chance,
)
from tiechances.errors import NoChances, NoLot, NoPlaces, NoWeb
from tiechances.shares import lot_chance, pieces_shares, share


def pieces_counted(web, lot):
    return len({tuple(sorted(reached(web, lot, place))) for place in range(web[0])})


def asked():
    """Small webs and great ones, with some chances."""
    found = [(web, chances_of(web, at)) for at, web in enumerate(small_webs())]
    return found + [(web, chances_of(web, start)) for web in GREAT for start in (0, 4, 7)]


class LotChance(Asking):
    def test_ordinary(self):
        chances = ((1, 2), (2, 3), (3, 4))
        self.assertEqual(lot_chance(PATH, chances, ()), (1, 24))
        self.assertEqual(lot_chance(PATH, chances, (0,)), (1, 24))
        self.assertEqual(lot_chance(PATH, chances, (1,)), (1, 12))
        self.assertEqual(lot_chance(PATH, chances, (0, 2)), (1, 8))
        self.assertEqual(lot_chance(PATH, chances, (0, 1, 2)), (1, 4))

    def test_nought_and_one(self):
        for chances, held in ((((0, 1),) * 3, ()), (((1, 1),) * 3, (0, 1, 2)),
                              (((1, 1), (0, 1), (1, 1)), (0, 2))):
            for lot in lots_of(3):
                due = (1, 1) if lot == held else (0, 1)
                self.assertEqual(lot_chance(PATH, chances, lot), due, (chances, lot))

    def test_no_ties(self):
        self.assertEqual(lot_chance(LONE, (), ()), (1, 1))
        self.assertEqual(lot_chance(EMPTY, (), ()), (1, 1))

    def test_great_bottoms(self):
        whole = Fraction(1)
        for top, bottom in PRIMES:
            whole *= Fraction(top, bottom)
        told = lot_chance(FULL, PRIMES, tuple(range(8)))
        self.assertEqual(told, (whole.numerator, whole.denominator))
        thousandths = ((1, 1000),) * 8
        self.assertEqual(lot_chance(FULL, thousandths, tuple(range(8))), (1, 10 ** 24))
        self.assertEqual(lot_chance(FULL, thousandths, ()), (999 ** 8, 10 ** 24))
        self.assertEqual(lot_chance(FULL, ((999, 1000),) * 8, (3,)), (999, 10 ** 24))

    def test_all_lots(self):
        for web, chances in asked():
            for lot in lots_of(len(web[1])):
                due = as_tuple(walked_chance(chances, lot))
                self.assertEqual(lot_chance(web, chances, lot), due, (web, chances, lot))

    def test_the_chances_of_all_lots_come_to_1(self):
        for web, chances in asked():
            told = [lot_chance(web, chances, lot) for lot in lots_of(len(web[1]))]
            self.assertEqual(sum(Fraction(*one) for one in told), 1, (web, chances))

    def test_refusals(self):
        chances = ((1, 2), (0, 1), (2, 3))
        for lot in no_lots(PATH) + plainly_none():
            self.assertRefused(NoLot, lot_chance, PATH, chances, lot)
        for wrong in no_chances(PATH):
            for lot in ((), (0, 2), None, (3,)):
                self.assertRefused(NoChances, lot_chance, PATH, wrong, lot)
        for web in no_webs():
            for wrong in ((), None):
                self.assertRefused(NoWeb, lot_chance, web, wrong, ())
                self.assertRefused(NoWeb, lot_chance, web, wrong, None)

    def test_refusals_where_there_is_no_tie(self):
        self.assertRefused(NoChances, lot_chance, LONE, [], ())
        self.assertRefused(NoChances, lot_chance, LONE, ((1, 2),), ())
        self.assertRefused(NoLot, lot_chance, LONE, (), (0,))
        self.assertRefused(NoLot, lot_chance, LONE, (), [])


class Share(Asking):
    def test_ordinary(self):
        chances = ((1, 2), (2, 3), (3, 4))
        self.assertEqual(share(PATH, chances, (0, 1)), (1, 2))
        self.assertEqual(share(PATH, chances, (0, 2)), (1, 3))
        self.assertEqual(share(PATH, chances, (0, 1, 2, 3)), (1, 4))
        self.assertEqual(share(TRIANGLE, HALVES[3], (0, 1)), (5, 8))
        self.assertEqual(share(TRIANGLE, HALVES[3], (0, 1, 2)), (1, 2))
        self.assertEqual(share(TWINS, HALVES[3], (0, 1)), (3, 4))
        self.assertEqual(share(ALIKE, HALVES[8], (0, 1)), (255, 256))

    def test_one_place(self):
        for web, chances in asked():
            for place in range(web[0]):
                self.assertEqual(share(web, chances, (place,)), (1, 1), (web, chances))
        self.assertEqual(share(LONE, (), (0,)), (1, 1))
        self.assertEqual(share(EMPTY, (), (4,)), (1, 1))

    def test_nought_and_one(self):
        sure = ((1, 1),) * 8
        never = ((0, 1),) * 8
        for web in GREAT:
            many = len(web[1])
            for places in places_of(web):
                due = (1, 1) if is_good(web, tuple(range(many)), places) else (0, 1)
                self.assertEqual(share(web, sure[:many], places), due, (web, places))
                due = (1, 1) if len(places) == 1 else (0, 1)
                self.assertEqual(share(web, never[:many], places), due, (web, places))

    def test_places_that_no_tie_joins(self):
        for places in ((0, 1), (0, 3), (0, 1, 2, 3, 4, 5)):
            self.assertEqual(share(APART, HALVES[5], places), (0, 1))
            self.assertEqual(share(EMPTY, (), places), (0, 1))

    def test_great_bottoms(self):
        for web in GREAT:
            chances = PRIMES[:len(web[1])]
            for places in places_of(web):
                due = as_tuple(summed_share(web, chances, places))
                self.assertEqual(share(web, chances, places), due, (web, places))
        self.assertEqual(share(ALIKE, ((1, 1000),) * 8, (0, 1)),
                         (10 ** 24 - 999 ** 8, 10 ** 24))

    def test_by_all_lots(self):
        for web, chances in asked():
            for places in places_of(web):
                due = as_tuple(summed_share(web, chances, places))
                self.assertEqual(share(web, chances, places), due, (web, chances, places))

    def test_refusals(self):
        chances = ((1, 2), (0, 1), (2, 3))
        for places in no_places(PATH) + plainly_none():
            self.assertRefused(NoPlaces, share, PATH, chances, places)
        for wrong in no_chances(PATH):
            for places in ((0,), (0, 3), None, ()):
                self.assertRefused(NoChances, share, PATH, wrong, places)
        for web in no_webs():
            for wrong in ((), None):
                self.assertRefused(NoWeb, share, web, wrong, (0,))
                self.assertRefused(NoWeb, share, web, wrong, None)

    def test_a_refusal_changes_nothing(self):
        chances = [[1, 2], [1, 2], [1, 2]]
        places = [0, [1]]
        self.assertRefused(NoChances, share, PATH, chances, places)
        self.assertRefused(NoPlaces, share, PATH, HALVES[3], places)
        self.assertEqual((chances, places), ([[1, 2], [1, 2], [1, 2]], [0, [1]]))
        self.assertEqual(share(PATH, HALVES[3], (0, 1)), (1, 2))


class PiecesShares(Asking):
    def test_ordinary(self):
        self.assertEqual(pieces_shares(PATH, HALVES[3]), [(1, 8), (3, 8), (3, 8), (1, 8)])
        self.assertEqual(pieces_shares(TRIANGLE, HALVES[3]), [(1, 2), (3, 8), (1, 8)])
        self.assertEqual(pieces_shares(TWINS, ((1, 2), (1, 2), (1, 3))),
                         [(1, 4), (7, 12), (1, 6)])
        self.assertEqual(pieces_shares(ALIKE, HALVES[8]), [(255, 256), (1, 256)])

    def test_no_ties(self):
        self.assertEqual(pieces_shares(LONE, ()), [(1, 1)])
        self.assertEqual(pieces_shares(EMPTY, ()), [(0, 1)] * 5 + [(1, 1)])

    def test_nought_and_one(self):
        self.assertEqual(pieces_shares(PATH, ((0, 1),) * 3), [(0, 1)] * 3 + [(1, 1)])
        self.assertEqual(pieces_shares(PATH, ((1, 1),) * 3), [(1, 1)] + [(0, 1)] * 3)
        self.assertEqual(pieces_shares(APART, ((1, 1),) * 5),
                         [(0, 1), (0, 1), (1, 1), (0, 1), (0, 1), (0, 1)])

    def test_by_all_lots(self):
        for web, chances in asked():
            due = [Fraction(0)] * web[0]
            for lot in lots_of(len(web[1])):
                due[pieces_counted(web, lot) - 1] += walked_chance(chances, lot)
            told = pieces_shares(web, chances)
            self.assertEqual(told, [as_tuple(one) for one in due], (web, chances))

    def test_it_comes_to_1_and_has_one_fraction_for_each_place(self):
        for web, chances in asked() + [(web, PRIMES[:len(web[1])]) for web in GREAT]:
            told = pieces_shares(web, chances)
            self.assertEqual(len(told), web[0], web)
            self.assertEqual(sum(Fraction(*one) for one in told), 1, (web, chances))
            self.assertEqual(told[0], share(web, chances, tuple(range(web[0]))))

    def test_the_list_is_a_new_one_each_time(self):
        one = pieces_shares(PATH, HALVES[3])
        kept = list(one)
        one[0] = "other"
        one.append("more")
        self.assertEqual(pieces_shares(PATH, HALVES[3]), kept)

    def test_refusals(self):
        for wrong in no_chances(PATH):
            self.assertRefused(NoChances, pieces_shares, PATH, wrong)
        self.assertRefused(NoChances, pieces_shares, EMPTY, [])
        self.assertRefused(NoChances, pieces_shares, EMPTY, ((1, 2),))
        for web in no_webs():
            for wrong in ((), None):
                self.assertRefused(NoWeb, pieces_shares, web, wrong)


class Kinds(Asking):
    def test_fractions_are_tuples_of_two_whole_numbers(self):
        for web, chances in asked():
            self.assertFraction(share(web, chances, (0,)))
            self.assertFraction(lot_chance(web, chances, ()))
            told = pieces_shares(web, chances)
            self.assertIs(type(told), list)
            for one in told:
                self.assertFraction(one)


if __name__ == "__main__":
    unittest.main()
