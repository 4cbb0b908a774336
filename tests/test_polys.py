import itertools
import unittest
from fractions import Fraction

from tests.samples import (
    ALIKE, APART, EMPTY, FULL, GREAT, LONE, PATH, TRIANGLE, TWINS, Asking, as_tuple,
    no_chance_things, no_places, no_webs, places_of, plainly_none, small_webs, summed_share,
    walked_good,
)
from tiechances.errors import NoChance, NoPlaces, NoWeb
from tiechances.polys import are_alike, counts, greater_at, powers, share_at
from tiechances.shares import share

POINTS = ((0, 1), (1, 1), (1, 2), (2, 3), (3, 7), (1, 1000), (999, 1000), (500, 997))


def asked():
    """Webs with places of them."""
    found = []
    for web in small_webs() + [PATH, TRIANGLE, TWINS, LONE, EMPTY] + list(GREAT):
        found.extend((web, places) for places in places_of(web))
    return found


def some_asked():
    """A few webs with places: two of them stand for many pairs."""
    return [(PATH, (0, 1)), (PATH, (0, 3)), (TRIANGLE, (0, 1)), (TRIANGLE, (0, 1, 2)),
            (TWINS, (0, 2)), (LONE, (0,)), (EMPTY, (2,)), (EMPTY, (0, 1)), (ALIKE, (0, 1)),
            (FULL, (0, 3)), (APART, (0, 2)), (APART, (0, 1)), (FULL, (0, 1, 2, 3, 4, 5)),
            (PATH, (2,)), ((2, ((0, 1),)), (0, 1)), ((2, ()), (0,))]


def walked_counts(web, places):
    sizes = [len(lot) for lot in walked_good(web, places)]
    return [sizes.count(many) for many in range(len(web[1]) + 1)]


def times(one, other):
    """The product of two lists of a polynomial's numbers."""
    found = [0] * (len(one) + len(other) - 1)
    for (i, a), (k, b) in itertools.product(enumerate(one), enumerate(other)):
        found[i + k] += a * b
    return found


def multiplied_powers(web, places):
    """The polynomial, lot by lot: a factor p for each tie held, 1 - p for each other one."""
    many = len(web[1])
    found = [0] * (many + 1)
    for lot in walked_good(web, places):
        one = [1]
        for number in range(many):
            one = times(one, [0, 1] if number in lot else [1, -1])
        found = [a + b for a, b in zip(found, one)]
    return found


def renumbered(web, places, names):
    """The same web with other numbers for its places."""
    many, ties = web
    return ((many, tuple(sorted(tuple(sorted((names[a], names[b]))) for a, b in ties))),
            tuple(sorted(names[place] for place in places)))


class Counts(Asking):
    def test_ordinary(self):
        self.assertEqual(counts(PATH, (0, 2)), [0, 0, 1, 1])
        self.assertEqual(counts(TRIANGLE, (0, 1)), [0, 1, 3, 1])
        self.assertEqual(counts(TRIANGLE, (0, 1, 2)), [0, 0, 3, 1])
        self.assertEqual(counts(ALIKE, (0, 1)), [0, 8, 28, 56, 70, 56, 28, 8, 1])

    def test_no_ties_one_place_and_places_in_pieces(self):
        self.assertEqual(counts(LONE, (0,)), [1])
        self.assertEqual(counts(EMPTY, (0, 1)), [0])
        self.assertEqual(counts(PATH, (3,)), [1, 3, 3, 1])
        self.assertEqual(counts(APART, (0, 1)), [0] * 6)

    def test_by_all_lots(self):
        for web, places in asked():
            told = counts(web, places)
            self.assertEqual(told, walked_counts(web, places), (web, places))
            self.assertEqual(len(told), len(web[1]) + 1)

    def test_kinds_and_new_lists(self):
        for ask in (counts, powers):
            for web, places in some_asked():
                told = ask(web, places)
                self.assertIs(type(told), list)
                self.assertEqual({type(number) for number in told}, {int})
                kept = list(told)
                told[0] = "other"
                told.append("more")
                self.assertEqual(ask(web, places), kept)

    def test_refusals(self):
        for ask in (counts, powers):
            for web in (PATH, FULL):
                self.assertInOrder(ask, (web, (0, 2)), (NoWeb, 0, no_webs()),
                                   (NoPlaces, 1, no_places(web) + plainly_none()))


class Alike(Asking):
    def test_ordinary(self):
        self.assertIs(are_alike(PATH, (0, 1), PATH, (2, 3)), True)
        self.assertIs(are_alike(PATH, (0, 1), PATH, (0, 2)), False)
        self.assertIs(are_alike(TRIANGLE, (0, 1), TRIANGLE, (1, 2)), True)
        # A path and a star are other webs, but both hang together by all ties alone.
        self.assertIs(are_alike(PATH, (0, 1, 2, 3), (4, ((0, 1), (0, 2), (0, 3))), (0, 1, 2, 3)),
                      True)

    def test_unlike_numbers_of_ties(self):
        one = (2, ((0, 1),))
        # A tie that leads nowhere changes no share, but the list is longer.
        self.assertIs(are_alike(one, (0, 1), PATH, (0, 1)), False)
        self.assertIs(are_alike(LONE, (0,), PATH, (0,)), False)
        self.assertIs(are_alike(EMPTY, (0, 1), APART, (0, 1)), False)
        self.assertIs(are_alike(LONE, (0,), EMPTY, (3,)), True)
        self.assertIs(are_alike(LONE, (0,), EMPTY, (0, 3)), False)

    def test_a_web_under_other_numbers_is_alike_with_itself(self):
        for web, places in asked()[::9] + some_asked():
            for names in list(itertools.permutations(range(web[0])))[::7]:
                other, more = renumbered(web, places, names)
                self.assertIs(are_alike(web, places, other, more), True, (web, places, names))
                for chance in ((1, 2), (997, 1000)):
                    self.assertEqual(greater_at(web, places, other, more, chance), 0)

    def test_by_the_lists(self):
        for (web, places), (other, more) in itertools.product(some_asked(), repeat=2):
            due = walked_counts(web, places) == walked_counts(other, more)
            self.assertIs(are_alike(web, places, other, more), due, (web, places, other, more))

    def test_refusals(self):
        for web, other in ((PATH, TWINS), (FULL, PATH)):
            self.assertInOrder(
                are_alike, (web, (0, 2), other, (1, 2)),
                (NoWeb, 0, no_webs()), (NoWeb, 2, no_webs()),
                (NoPlaces, 1, no_places(web) + plainly_none()),
                (NoPlaces, 3, no_places(other) + plainly_none()))

    def test_places_are_those_of_their_own_web(self):
        self.assertRefused(NoPlaces, are_alike, TWINS, (0, 3), PATH, (0, 3))
        self.assertRefused(NoPlaces, are_alike, PATH, (0, 3), TWINS, (0, 3))
        self.assertIs(are_alike(PATH, (0, 3), TWINS, (0, 2)), False)


class Powers(Asking):
    def test_ordinary(self):
        self.assertEqual(powers(PATH, (0, 2)), [0, 0, 1, 0])
        self.assertEqual(powers(PATH, (0, 3)), [0, 0, 0, 1])
        self.assertEqual(powers(TWINS, (0, 1)), [0, 2, -1, 0])
        self.assertEqual(powers(TRIANGLE, (0, 1)), [0, 1, 1, -1])
        self.assertEqual(powers(TRIANGLE, (0, 1, 2)), [0, 0, 3, -2])
        self.assertEqual(powers(ALIKE, (0, 1)), [0, 8, -28, 56, -70, 56, -28, 8, -1])

    def test_no_ties_one_place_and_places_in_pieces(self):
        self.assertEqual(powers(LONE, (0,)), [1])
        self.assertEqual(powers(EMPTY, (0, 5)), [0])
        self.assertEqual(powers(PATH, (3,)), [1, 0, 0, 0])
        self.assertEqual(powers(APART, (0, 1)), [0] * 6)

    def test_lot_by_lot(self):
        for web, places in asked():
            told = powers(web, places)
            self.assertEqual(told, multiplied_powers(web, places), (web, places))
            self.assertEqual(len(told), len(web[1]) + 1)


class ShareAt(Asking):
    def test_ordinary(self):
        self.assertEqual(share_at(TRIANGLE, (0, 1), (1, 2)), (5, 8))
        self.assertEqual(share_at(PATH, (0, 3), (2, 3)), (8, 27))
        self.assertEqual(share_at(LONE, (0,), (1, 1000)), (1, 1))
        self.assertEqual(share_at(EMPTY, (0, 1), (1, 1)), (0, 1))

    def test_nought_and_one(self):
        for web, places in asked():
            due = (1, 1) if len(places) == 1 else (0, 1)
            self.assertEqual(share_at(web, places, (0, 1)), due, (web, places))
            due = (1, 1) if walked_good(web, places) else (0, 1)
            self.assertEqual(share_at(web, places, (1, 1)), due, (web, places))

    def test_it_is_the_share_where_all_have_that_chance(self):
        for at, (web, places) in enumerate(asked()):
            for chance in (POINTS[at % 8], POINTS[(at + 3) % 8]):
                chances = (chance,) * len(web[1])
                told = share_at(web, places, chance)
                self.assertEqual(told, share(web, chances, places), (web, places, chance))
                self.assertEqual(told, as_tuple(summed_share(web, chances, places)))
                self.assertFraction(told)

    def test_great_bottoms(self):
        for web in GREAT:
            for places in places_of(web):
                for chance in ((1, 1000), (999, 1000), (500, 997), (1, 997)):
                    due = summed_share(web, (chance,) * len(web[1]), places)
                    self.assertEqual(Fraction(*share_at(web, places, chance)), due)

    def test_refusals(self):
        for web in (PATH, FULL):
            self.assertInOrder(
                share_at, (web, (0, 2), (1, 2)), (NoWeb, 0, no_webs()),
                (NoPlaces, 1, no_places(web) + plainly_none()),
                (NoChance, 2, no_chance_things()))
        self.assertRefused(NoChance, share_at, LONE, (0,), (2, 4))


class GreaterAt(Asking):
    def test_ordinary(self):
        self.assertEqual(greater_at(TRIANGLE, (0, 1), PATH, (0, 1), (1, 2)), 1)
        self.assertEqual(greater_at(PATH, (0, 1), TRIANGLE, (0, 1), (1, 2)), -1)
        self.assertEqual(greater_at(PATH, (0, 1), PATH, (2, 3), (1, 2)), 0)

    def test_another_one_at_another_chance(self):
        # Two alike ties or a tie against three in a row, twice: they cross between 0 and 1.
        one = (3, ((0, 1), (0, 1), (1, 2), (1, 2)))
        self.assertEqual(greater_at(one, (0, 2), (2, ((0, 1),)), (0, 1), (1, 10)), -1)
        self.assertEqual(greater_at(one, (0, 2), (2, ((0, 1),)), (0, 1), (9, 10)), 1)
        for chance in ((0, 1), (1, 1)):
            self.assertEqual(greater_at(one, (0, 2), (2, ((0, 1),)), (0, 1), chance), 0)

    def test_by_the_shares_and_the_other_way_about(self):
        for (web, places), (other, more) in itertools.product(some_asked(), repeat=2):
            for chance in POINTS:
                one = summed_share(web, (chance,) * len(web[1]), places)
                two = summed_share(other, (chance,) * len(other[1]), more)
                due = (one > two) - (one < two)
                told = greater_at(web, places, other, more, chance)
                self.assertEqual(told, due, (web, places, other, more, chance))
                self.assertIs(type(told), int)

    def test_alike_webs_have_one_share_at_each_chance(self):
        for (web, places), (other, more) in itertools.product(some_asked(), repeat=2):
            if are_alike(web, places, other, more):
                for chance in POINTS:
                    self.assertEqual(greater_at(web, places, other, more, chance), 0)

    def test_refusals(self):
        for web, other in ((PATH, TWINS), (FULL, PATH)):
            self.assertInOrder(
                greater_at, (web, (0, 2), other, (1, 2), (1, 3)),
                (NoWeb, 0, no_webs()), (NoWeb, 2, no_webs()),
                (NoPlaces, 1, no_places(web) + plainly_none()),
                (NoPlaces, 3, no_places(other) + plainly_none()),
                (NoChance, 4, no_chance_things()))


if __name__ == "__main__":
    unittest.main()
