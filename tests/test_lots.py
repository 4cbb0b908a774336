import unittest

from tests.samples import (
    ALIKE, APART, EMPTY, FULL, GREAT, LONE, PATH, TRIANGLE, TWINS, Asking, is_good,
    least_by_parts, lots_of, no_places, no_webs, places_of, plainly_none, rest_of,
    small_webs,
)
from tiechances.errors import NoPlaces, NoWeb
from tiechances.lots import cuts, good_lots, least_cuts, least_good

ALL_FOUR = (good_lots, least_good, cuts, least_cuts)


def asked():
    """Webs with places: all places of small webs, some of great ones."""
    found = [(web, places) for web in small_webs() for places in lots_of(web[0])[1:]]
    return found + [(web, places) for web in GREAT for places in places_of(web)]


class ByAllLots(Asking):
    """Against all lots, gone through one by one."""

    def test_good_lots_and_least_ones(self):
        for web, places in asked():
            lots = sorted(lots_of(len(web[1])))
            due = [lot for lot in lots if is_good(web, lot, places)]
            self.assertEqual(good_lots(web, places), due, (web, places))
            self.assertEqual(least_good(web, places), least_by_parts(due), (web, places))

    def test_cuts_and_least_ones(self):
        for web, places in asked():
            lots = sorted(lots_of(len(web[1])))
            due = [lot for lot in lots if not is_good(web, rest_of(web, lot), places)]
            self.assertEqual(cuts(web, places), due, (web, places))
            self.assertEqual(least_cuts(web, places), least_by_parts(due), (web, places))

    def test_a_lot_is_good_just_where_the_others_are_no_cut(self):
        for web, places in asked():
            good = good_lots(web, places)
            apart = [rest_of(web, lot) for lot in cuts(web, places)]
            self.assertEqual(sorted(good + apart), sorted(lots_of(len(web[1]))))

    def test_a_good_lot_has_a_tie_of_each_cut(self):
        for web in GREAT:
            for places in places_of(web):
                for cut in least_cuts(web, places):
                    for lot in least_good(web, places):
                        self.assertTrue(set(cut) & set(lot), (web, places, cut, lot))


class Ordinary(Asking):
    def test_a_path(self):
        self.assertEqual(good_lots(PATH, (0, 2)), [(0, 1), (0, 1, 2)])
        self.assertEqual(least_good(PATH, (0, 2)), [(0, 1)])
        self.assertEqual(least_good(PATH, (0, 1, 2, 3)), [(0, 1, 2)])
        self.assertEqual(cuts(PATH, (0, 2)), [
            (0,), (0, 1), (0, 1, 2), (0, 2), (1,), (1, 2)])
        self.assertEqual(least_cuts(PATH, (0, 2)), [(0,), (1,)])
        self.assertEqual(least_cuts(PATH, (0, 3)), [(0,), (1,), (2,)])

    def test_a_triangle(self):
        self.assertEqual(good_lots(TRIANGLE, (0, 1)), [
            (0,), (0, 1), (0, 1, 2), (0, 2), (1, 2)])
        self.assertEqual(least_good(TRIANGLE, (0, 1)), [(0,), (1, 2)])
        self.assertEqual(least_good(TRIANGLE, (0, 1, 2)), [(0, 1), (0, 2), (1, 2)])
        self.assertEqual(cuts(TRIANGLE, (0, 1)), [(0, 1), (0, 1, 2), (0, 2)])
        self.assertEqual(least_cuts(TRIANGLE, (0, 1)), [(0, 1), (0, 2)])

    def test_alike_ties(self):
        self.assertEqual(least_good(TWINS, (0, 1, 2)), [(0, 2), (1, 2)])
        self.assertEqual(least_cuts(TWINS, (0, 1, 2)), [(0, 1), (2,)])
        self.assertEqual(least_good(ALIKE, (0, 1)), [(k,) for k in range(8)])
        self.assertEqual(least_cuts(ALIKE, (0, 1)), [tuple(range(8))])
        self.assertEqual(len(good_lots(ALIKE, (0, 1))), 255)
        self.assertEqual(cuts(ALIKE, (0, 1)), [tuple(range(8))])

    def test_the_lists_rise_as_tuples_compare(self):
        self.assertEqual(good_lots(TWINS, (0, 1)), [
            (0,), (0, 1), (0, 1, 2), (0, 2), (1,), (1, 2)])
        for web, places in asked():
            for ask in ALL_FOUR:
                told = ask(web, places)
                self.assertTrue(all(one < other for one, other in zip(told, told[1:])))


class Edges(Asking):
    def test_one_place_has_all_lots_good_and_no_cuts(self):
        for web in small_webs() + list(GREAT) + [LONE, EMPTY]:
            for place in range(web[0]):
                self.assertEqual(good_lots(web, (place,)), sorted(lots_of(len(web[1]))))
                self.assertEqual(least_good(web, (place,)), [()])
                self.assertEqual(cuts(web, (place,)), [])
                self.assertEqual(least_cuts(web, (place,)), [])

    def test_places_in_pieces_that_no_tie_joins(self):
        lots = sorted(lots_of(5))
        for places in ((0, 1), (0, 3), (1, 2), (0, 1, 2, 3, 4, 5), (2, 4, 5)):
            self.assertEqual(good_lots(APART, places), [])
            self.assertEqual(least_good(APART, places), [])
            self.assertEqual(cuts(APART, places), lots)
            self.assertEqual(least_cuts(APART, places), [()])

    def test_no_ties(self):
        self.assertEqual(good_lots(EMPTY, (3,)), [()])
        self.assertEqual(good_lots(EMPTY, (0, 5)), [])
        self.assertEqual(cuts(EMPTY, (0, 5)), [()])
        self.assertEqual(least_cuts(EMPTY, (0, 5)), [()])
        self.assertEqual(good_lots(LONE, (0,)), [()])
        self.assertEqual(least_good(LONE, (0,)), [()])


class Told(Asking):
    def test_kinds(self):
        for ask in ALL_FOUR:
            told = ask(TWINS, (0, 2))
            self.assertIs(type(told), list)
            for lot in told:
                self.assertIs(type(lot), tuple)
                self.assertEqual({type(number) for number in lot} - {int}, set())

    def test_the_lists_are_new_ones_each_time(self):
        for ask in ALL_FOUR:
            for web, places in ((FULL, (0, 3)), (PATH, (0,)), (APART, (0, 1)), (LONE, (0,))):
                one = ask(web, places)
                kept = list(one)
                one.append("more")
                one[0] = "other"
                self.assertEqual(ask(web, places), kept)
                self.assertIsNot(ask(web, places), ask(web, places))


class Refused(Asking):
    def test_no_places(self):
        for ask in ALL_FOUR:
            for web in (PATH, TWINS, FULL):
                for places in no_places(web) + plainly_none():
                    self.assertRefused(NoPlaces, ask, web, places)

    def test_no_places_of_webs_without_ties(self):
        for ask in ALL_FOUR:
            for places in ((), (1,), (-1,), (0, 1), [0], (False,), None):
                self.assertRefused(NoPlaces, ask, LONE, places)
            for places in ((), (6,), (0, 6), [0], (0, 0)):
                self.assertRefused(NoPlaces, ask, EMPTY, places)

    def test_no_web_goes_ahead(self):
        for ask in ALL_FOUR:
            for web in no_webs():
                self.assertRefused(NoWeb, ask, web, (0,))
                self.assertRefused(NoWeb, ask, web, None)
                self.assertRefused(NoWeb, ask, web, ())

    def test_a_refusal_changes_nothing(self):
        web = [3, [[0, 1]]]
        places = [0, [1]]
        for ask in ALL_FOUR:
            self.assertRefused(NoWeb, ask, web, places)
            self.assertRefused(NoPlaces, ask, PATH, places)
        self.assertEqual((web, places), ([3, [[0, 1]]], [0, [1]]))
        self.assertEqual(least_good(PATH, (0, 1)), [(0,)])


if __name__ == "__main__":
    unittest.main()
