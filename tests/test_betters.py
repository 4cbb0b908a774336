import itertools
import unittest
from fractions import Fraction

from tests.samples import (
    ALIKE, APART, EMPTY, FULL, GREAT, HALVES, LONE, PATH, PRIMES, TRIANGLE, TWINS, Asking, as_tuple,
    chances_of, chances_put, no_chance_things, no_chances, no_numbers, no_places, no_webs,
    places_of, plainly_none, small_webs, summed_share,
)
from tiechances.betters import best_raise, best_tie, gain, worths
from tiechances.errors import NoChance, NoChances, NoPlaces, NoTie, NoWeb

# Chances that a tie is given: none, some, nearly sure, sure.
OTHERS = ((0, 1), (1, 1000), (1, 2), (500, 997), (999, 1000), (1, 1))


def asked():
    """Webs with chances and places."""
    found = []
    for at, web in enumerate(small_webs()[::5] + [PATH, TRIANGLE, TWINS, LONE, EMPTY]):
        found.extend((web, chances_of(web, at), places) for places in places_of(web))
    for web in GREAT:
        for chances in (chances_of(web, 2), PRIMES[:len(web[1])]):
            found.extend((web, chances, places) for places in places_of(web)[1::2])
    return found


def summed_worths(web, chances, places):
    """The worths, by the share with each tie surely held and surely not."""
    return [summed_share(web, chances_put(chances, number, (1, 1)), places)
            - summed_share(web, chances_put(chances, number, (0, 1)), places)
            for number in range(len(chances))]


def summed_gains(web, chances, places, chance):
    """The gain of each tie, by the share with and without that chance."""
    before = summed_share(web, chances, places)
    return [summed_share(web, chances_put(chances, number, chance), places) - before
            for number in range(len(chances))]


class Worths(Asking):
    def test_ordinary(self):
        chances = ((1, 2), (2, 3), (3, 4))
        self.assertEqual(worths(PATH, chances, (0, 3)), [(1, 2), (3, 8), (1, 3)])
        self.assertEqual(best_tie(PATH, chances, (0, 3)), 0)
        self.assertEqual(worths(TRIANGLE, HALVES[3], (0, 1)), [(3, 4), (1, 4), (1, 4)])
        self.assertEqual(best_tie(TRIANGLE, chances, (0, 2)), 1)
        self.assertEqual(best_tie(PATH, ((3, 4), (2, 3), (1, 2)), (0, 3)), 2)

    def test_ties_that_lead_nowhere(self):
        self.assertEqual(worths(PATH, HALVES[3], (0, 1)), [(1, 1), (0, 1), (0, 1)])
        self.assertEqual(worths(PATH, HALVES[3], (2, 3)), [(0, 1), (0, 1), (1, 1)])
        self.assertEqual(best_tie(PATH, HALVES[3], (2, 3)), 2)
        self.assertEqual(worths(APART, HALVES[5], (1, 5)), [(0, 1)] * 3 + [(1, 1), (0, 1)])
        self.assertEqual(best_tie(APART, HALVES[5], (1, 5)), 3)

    def test_all_worths_nought(self):
        for web, places in ((PATH, (2,)), (APART, (0, 1)), (FULL, (5,))):
            many = len(web[1])
            self.assertEqual(worths(web, HALVES[many], places), [(0, 1)] * many)
            self.assertEqual(best_tie(web, HALVES[many], places), 0)

    def test_alike_ties(self):
        self.assertEqual(worths(TWINS, ((1, 2), (1, 3), (1, 1)), (0, 1)),
                         [(2, 3), (1, 2), (0, 1)])
        self.assertEqual(worths(ALIKE, HALVES[8], (0, 1)), [(1, 128)] * 8)
        self.assertEqual(worths(ALIKE, chances_put(HALVES[8], 5, (1, 1)), (0, 1)),
                         [(0, 1)] * 5 + [(1, 128)] + [(0, 1)] * 2)

    def test_the_first_of_several(self):
        self.assertEqual(best_tie(ALIKE, HALVES[8], (0, 1)), 0)
        self.assertEqual(best_tie(TRIANGLE, HALVES[3], (0, 1, 2)), 0)
        self.assertEqual(best_tie(PATH, ((1, 1), (1, 2), (1, 2)), (0, 3)), 1)
        self.assertEqual(best_tie(PATH, ((1, 2), (1, 3), (1, 3)), (0, 3)), 1)
        self.assertEqual(best_tie(PATH, ((0, 1),) * 3, (0, 3)), 0)

    def test_no_tie(self):
        for web in (LONE, EMPTY, (2, ())):
            for places in places_of(web):
                self.assertEqual(worths(web, (), places), [])
                self.assertIsNone(best_tie(web, (), places))

    def test_by_the_share_with_the_tie_surely_held_and_surely_not(self):
        for web, chances, places in asked():
            due = summed_worths(web, chances, places)
            told = worths(web, chances, places)
            self.assertEqual(told, [as_tuple(one) for one in due], (web, chances, places))
            if due:
                self.assertEqual(best_tie(web, chances, places), due.index(max(due)))
                self.assertGreaterEqual(min(due), 0)

    def test_kinds(self):
        for web, chances, places in asked()[::5]:
            told = worths(web, chances, places)
            self.assertIs(type(told), list)
            for one in told:
                self.assertFraction(one)
            self.assertIn(type(best_tie(web, chances, places)), (int, type(None)))

    def test_the_list_is_a_new_one_each_time(self):
        one = worths(PATH, HALVES[3], (0, 1))
        kept = list(one)
        one[0] = "other"
        one.append("more")
        self.assertEqual(worths(PATH, HALVES[3], (0, 1)), kept)
        self.assertEqual(best_tie(PATH, HALVES[3], (0, 1)), 0)

    def test_refusals(self):
        for ask in (worths, best_tie):
            for web in (PATH, FULL):
                self.assertInOrder(
                    ask, (web, HALVES[len(web[1])], (0, 2)),
                    (NoWeb, 0, no_webs()), (NoChances, 1, no_chances(web)),
                    (NoPlaces, 2, no_places(web) + plainly_none()))


class Gain(Asking):
    def test_ordinary(self):
        chances = ((1, 2), (2, 3), (3, 4))
        self.assertEqual(gain(PATH, chances, (0, 3), 0, (1, 1)), (1, 4))
        self.assertEqual(gain(PATH, chances, (0, 3), 2, (1, 1)), (1, 12))
        self.assertEqual(gain(PATH, chances, (0, 1), 0, (3, 4)), (1, 4))

    def test_nought(self):
        chances = ((1, 2), (2, 3), (3, 4))
        self.assertEqual(gain(PATH, chances, (0, 3), 1, (2, 3)), (0, 1))
        self.assertEqual(gain(PATH, chances, (0, 1), 2, (1, 1)), (0, 1))
        self.assertEqual(gain(PATH, chances, (1,), 0, (0, 1)), (0, 1))

    def test_below_nought(self):
        chances = ((1, 2), (2, 3), (3, 4))
        self.assertEqual(gain(PATH, chances, (0, 3), 0, (0, 1)), (-1, 4))
        self.assertEqual(gain(PATH, chances, (0, 3), 2, (1, 2)), (-1, 12))
        self.assertEqual(gain(PATH, ((1, 1),) * 3, (0, 3), 1, (0, 1)), (-1, 1))
        self.assertEqual(gain(TWINS, ((1, 2), (1, 3), (1, 1)), (0, 1), 0, (1, 4)), (-1, 6))

    def test_by_the_share_with_and_without(self):
        for web, chances, places in asked():
            for chance in OTHERS[::2]:
                due = summed_gains(web, chances, places, chance)
                for number, one in enumerate(due):
                    told = gain(web, chances, places, number, chance)
                    self.assertFraction(told)
                    self.assertEqual(Fraction(*told), one, (web, chances, places, number, chance))

    def test_it_is_the_worth_times_what_the_chance_is_greater(self):
        for web, chances, places in asked()[::3]:
            told = worths(web, chances, places)
            for number, chance in itertools.product(range(len(chances)), OTHERS):
                greater = Fraction(*chance) - Fraction(*chances[number])
                due = as_tuple(Fraction(*told[number]) * greater)
                self.assertEqual(gain(web, chances, places, number, chance), due)

    def test_a_tie_bettered_makes_no_share_less(self):
        for web, chances, places in asked()[::3]:
            for number, chance in itertools.product(range(len(chances)), OTHERS):
                if Fraction(*chance) >= Fraction(*chances[number]):
                    self.assertGreaterEqual(gain(web, chances, places, number, chance)[0], 0)

    def test_refusals(self):
        for web in (PATH, FULL):
            self.assertInOrder(
                gain, (web, HALVES[len(web[1])], (0, 2), 1, (1, 3)),
                (NoWeb, 0, no_webs()), (NoChances, 1, no_chances(web)),
                (NoPlaces, 2, no_places(web) + plainly_none()),
                (NoTie, 3, no_numbers(web)), (NoChance, 4, no_chance_things()))

    def test_no_tie_where_there_are_none(self):
        for number in (0, -1, None, True, "0"):
            self.assertRefused(NoTie, gain, LONE, (), (0,), number, (1, 2))
            self.assertRefused(NoTie, gain, EMPTY, (), (0, 1), number, None)

    def test_a_refusal_changes_nothing(self):
        chance = [1, 2]
        self.assertRefused(NoChance, gain, PATH, HALVES[3], (0, 1), 0, chance)
        self.assertEqual(chance, [1, 2])
        self.assertEqual(gain(PATH, HALVES[3], (0, 1), 0, (1, 1)), (1, 2))


class BestRaise(Asking):
    def test_ordinary(self):
        chances = ((1, 2), (2, 3), (3, 4))
        self.assertEqual(best_raise(PATH, chances, (0, 3), (1, 1)), 0)
        self.assertEqual(best_raise(PATH, chances[::-1], (0, 3), (1, 1)), 2)
        self.assertEqual(best_raise(PATH, chances, (2, 3), (4, 5)), 2)

    def test_not_always_the_tie_of_the_greatest_worth(self):
        chances = ((9, 10), (1, 10), (1, 10))
        self.assertEqual(best_tie(TRIANGLE, chances, (0, 1)), 0)
        self.assertEqual(best_raise(TRIANGLE, chances, (0, 1), (8, 9)), 1)

    def test_the_first_of_several(self):
        self.assertEqual(best_raise(ALIKE, HALVES[8], (0, 1), (2, 3)), 0)
        self.assertEqual(best_raise(PATH, ((1, 1), (1, 2), (1, 2)), (0, 3), (1, 1)), 1)

    def test_none_where_no_gain_is_above_nought(self):
        for chance in ((1, 2), (1, 3), (0, 1)):
            self.assertIsNone(best_raise(PATH, HALVES[3], (0, 3), chance))
            self.assertIsNone(best_raise(ALIKE, HALVES[8], (0, 1), chance))
        for web, places in ((PATH, (1,)), (APART, (0, 1)), (LONE, (0,)), (EMPTY, (0, 1))):
            self.assertIsNone(best_raise(web, HALVES[len(web[1])], places, (1, 1)))
        self.assertIsNone(best_raise(PATH, ((0, 1),) * 3, (0, 3), (1, 1)))
        self.assertIsNone(best_raise(PATH, ((1, 1),) * 3, (0, 3), (1, 1)))

    def test_by_the_gains(self):
        for web, chances, places in asked():
            for chance in OTHERS[::2]:
                gains = summed_gains(web, chances, places, chance)
                due = gains.index(max(gains)) if gains and max(gains) > 0 else None
                told = best_raise(web, chances, places, chance)
                self.assertEqual(told, due, (web, chances, places, chance))
                self.assertIn(type(told), (int, type(None)))

    def test_refusals(self):
        for web in (PATH, FULL):
            self.assertInOrder(
                best_raise, (web, HALVES[len(web[1])], (0, 2), (1, 3)),
                (NoWeb, 0, no_webs()), (NoChances, 1, no_chances(web)),
                (NoPlaces, 2, no_places(web) + plainly_none()),
                (NoChance, 3, no_chance_things()))
        self.assertRefused(NoChance, best_raise, LONE, (), (0,), (2, 4))


if __name__ == "__main__":
    unittest.main()
