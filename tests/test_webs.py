import copy
import itertools
import unittest

from tests.samples import (
    EMPTY, FULL, LONE, PATH, TWINS, Asking, all_ties, is_good, lots_of, no_lots,
    no_places, no_webs, plain_things, plainly_none, reached, small_webs, wrong_webs,
)
from tiechances.errors import NoLot, NoPlaces, NoWeb
from tiechances.webs import hangs, is_web, pieces_by


def pieces_walked(web, lot):
    return sorted({tuple(sorted(reached(web, lot, k))) for k in range(web[0])})


class IsWeb(Asking):
    def test_small_webs(self):
        for web in small_webs():
            self.assertIs(is_web(web), True, web)

    def test_each_number_of_places_and_of_ties(self):
        for many in range(1, 7):
            for count in range(9 if many > 1 else 1):
                ties = sorted((all_ties(many) * 8)[:count])
                self.assertIs(is_web((many, tuple(ties))), True, (many, ties))

    def test_edges(self):
        for web in (FULL, PATH, TWINS, LONE, EMPTY, (2, ((0, 1),) * 8),
                    (6, ((4, 5),)), (6, ((0, 5), (1, 2)))):
            self.assertIs(is_web(web), True, web)

    def test_one_thing_otherwise(self):
        for why, thing in wrong_webs().items():
            self.assertIs(is_web(thing), False, why)

    def test_anything(self):
        for thing in plain_things():
            self.assertIs(is_web(thing), False, thing)

    def test_anything_at_each_depth_of_a_web(self):
        for thing in plain_things():
            self.assertIs(is_web((3, ((0, thing),))), thing in (1, 2)
                          and not isinstance(thing, bool), thing)
            self.assertIs(is_web((3, (thing,))), thing == (1, 2), thing)
            self.assertIs(is_web((thing, ())), thing in (1, 2)
                          and not isinstance(thing, bool), thing)

    def test_anything_for_the_ties(self):
        for thing in plain_things():
            self.assertIs(is_web((3, thing)), False, thing)

    def test_all_pairs_as_ties_by_what_the_document_says(self):
        pairs = list(itertools.product(range(-1, 4), repeat=2))
        for one, other in itertools.product(pairs, repeat=2):
            due = all(0 <= a < b < 3 for a, b in (one, other)) and one <= other
            self.assertIs(is_web((3, (one, other))), due, (one, other))

    def test_nothing_is_changed_and_the_answer_stays(self):
        for thing in list(wrong_webs().values()) + plain_things() + [FULL]:
            ahead = copy.deepcopy(thing)
            told = is_web(thing)
            self.assertEqual(thing, ahead)
            self.assertIs(is_web(thing), told)


class PiecesBy(Asking):
    def test_by_no_tie(self):
        self.assertEqual(pieces_by(EMPTY, ()), [(0,), (1,), (2,), (3,), (4,), (5,)])
        self.assertEqual(pieces_by(PATH, ()), [(0,), (1,), (2,), (3,)])
        self.assertEqual(pieces_by(LONE, ()), [(0,)])

    def test_by_all_ties(self):
        self.assertEqual(pieces_by(FULL, tuple(range(8))), [(0, 1, 2, 3, 4, 5)])
        self.assertEqual(pieces_by(PATH, (0, 1, 2)), [(0, 1, 2, 3)])

    def test_by_some_ties(self):
        self.assertEqual(pieces_by(PATH, (0, 2)), [(0, 1), (2, 3)])
        self.assertEqual(pieces_by(PATH, (1,)), [(0,), (1, 2), (3,)])
        self.assertEqual(pieces_by(TWINS, (0, 1)), [(0, 1), (2,)])
        self.assertEqual(pieces_by(FULL, (2, 4)), [(0, 5), (1,), (2, 3), (4,)])

    def test_places_that_hang_by_late_ties(self):
        web = (6, ((0, 5), (1, 4), (2, 3), (3, 5)))
        self.assertEqual(pieces_by(web, (0, 1, 2, 3)), [(0, 2, 3, 5), (1, 4)])

    def test_all_lots_of_small_webs(self):
        for web in small_webs() + [FULL]:
            for lot in lots_of(len(web[1])):
                self.assertEqual(pieces_by(web, lot), pieces_walked(web, lot), (web, lot))

    def test_kinds(self):
        told = pieces_by(TWINS, (0,))
        self.assertIs(type(told), list)
        for piece in told:
            self.assertIs(type(piece), tuple)
            for place in piece:
                self.assertIs(type(place), int)

    def test_the_list_is_a_new_one_each_time(self):
        one = pieces_by(PATH, (0, 2))
        other = pieces_by(PATH, (0, 2))
        self.assertIsNot(one, other)
        one.append("more")
        one[0] = "other"
        self.assertEqual(other, [(0, 1), (2, 3)])
        self.assertEqual(pieces_by(PATH, (0, 2)), [(0, 1), (2, 3)])

    def test_no_lot(self):
        for web in (PATH, TWINS, FULL):
            for lot in no_lots(web) + plainly_none():
                self.assertRefused(NoLot, pieces_by, web, lot)

    def test_no_lot_of_a_web_without_ties(self):
        for lot in ((0,), (-1,), [], None, (False,)):
            self.assertRefused(NoLot, pieces_by, EMPTY, lot)

    def test_a_tie_that_only_another_web_has(self):
        self.assertRefused(NoLot, pieces_by, PATH, (3,))
        self.assertEqual(pieces_by((4, PATH[1] + ((2, 3),)), (3,)), [(0,), (1,), (2, 3)])

    def test_no_web(self):
        for web in no_webs():
            self.assertRefused(NoWeb, pieces_by, web, ())

    def test_no_web_goes_ahead_of_no_lot(self):
        for web in no_webs():
            self.assertRefused(NoWeb, pieces_by, web, None)
        self.assertRefused(NoWeb, pieces_by, (0, ()), (7,))


class Hangs(Asking):
    def test_together(self):
        self.assertIs(hangs(PATH, (0, 1, 2), (0, 1, 2, 3)), True)
        self.assertIs(hangs(PATH, (0, 1), (0, 2)), True)
        self.assertIs(hangs(TWINS, (1, 2), (0, 1, 2)), True)

    def test_apart(self):
        self.assertIs(hangs(PATH, (0, 2), (0, 3)), False)
        self.assertIs(hangs(PATH, (0, 1), (0, 1, 2, 3)), False)
        self.assertIs(hangs(PATH, (0, 1), (2, 3)), False)
        self.assertIs(hangs(TWINS, (), (0, 1)), False)

    def test_a_lone_place(self):
        self.assertIs(hangs(LONE, (), (0,)), True)
        for place in range(6):
            self.assertIs(hangs(EMPTY, (), (place,)), True)
            self.assertIs(hangs(FULL, (), (place,)), True)
            self.assertIs(hangs(FULL, tuple(range(8)), (place,)), True)

    def test_all_lots_and_places_of_small_webs(self):
        for web in small_webs():
            for lot in lots_of(len(web[1])):
                for places in lots_of(web[0])[1:]:
                    due = is_good(web, lot, places)
                    self.assertIs(hangs(web, lot, places), due, (web, lot, places))

    def test_the_answer_stays(self):
        for places in ((0, 1), (0, 3)):
            told = hangs(PATH, (0,), places)
            self.assertIs(hangs(PATH, (0,), places), told)

    def test_no_places(self):
        for web in (PATH, TWINS, FULL):
            for places in no_places(web) + plainly_none():
                self.assertRefused(NoPlaces, hangs, web, (), places)

    def test_no_lot(self):
        for web in (PATH, TWINS, FULL):
            for lot in no_lots(web) + plainly_none():
                self.assertRefused(NoLot, hangs, web, lot, (0,))

    def test_no_web(self):
        for web in no_webs():
            self.assertRefused(NoWeb, hangs, web, (), (0,))

    def test_what_stands_further_to_the_left_goes_ahead(self):
        self.assertRefused(NoWeb, hangs, (0, ()), None, None)
        self.assertRefused(NoWeb, hangs, (0, ()), (), None)
        self.assertRefused(NoWeb, hangs, (0, ()), None, (0,))
        for lot in no_lots(PATH):
            for places in ((), None, (9,), [0]):
                self.assertRefused(NoLot, hangs, PATH, lot, places)

    def test_a_refusal_changes_nothing(self):
        lot = [0, [1]]
        places = {0: [0]}
        self.assertRefused(NoLot, hangs, PATH, lot, places)
        self.assertRefused(NoPlaces, hangs, PATH, (0,), places)
        self.assertEqual((lot, places), ([0, [1]], {0: [0]}))
        self.assertIs(hangs(PATH, (0,), (0, 1)), True)


if __name__ == "__main__":
    unittest.main()
