import copy
import unittest

from tests.samples import (
    EMPTY, FULL, LONE, PATH, TWINS, Asking, no_webs, plain_things, small_webs, wrong_chances,
)
from tiechances.chances import are_chances, is_chance
from tiechances.errors import NoWeb


class IsChance(Asking):
    def test_ordinary(self):
        for thing in ((1, 2), (2, 3), (1, 3), (5, 7), (7, 12), (99, 100)):
            self.assertIs(is_chance(thing), True, thing)

    def test_edges(self):
        for thing in ((0, 1), (1, 1), (1, 1000), (999, 1000), (997, 1000),
                      (499, 1000), (1, 999), (998, 999)):
            self.assertIs(is_chance(thing), True, thing)

    def test_one_thing_otherwise(self):
        for why, thing in wrong_chances().items():
            self.assertIs(is_chance(thing), False, why)

    def test_anything(self):
        for thing in plain_things():
            # Among the deep things is a chance: 1 of 1.
            self.assertIs(is_chance(thing), thing == (1, 1), thing)

    def test_anything_in_place_of_a_number(self):
        for thing in plain_things():
            whole = isinstance(thing, int) and not isinstance(thing, bool)
            self.assertIs(is_chance((thing, 1)), whole and thing in (0, 1), thing)
            self.assertIs(is_chance((1, thing)), whole and thing in (1, 2), thing)

    def test_by_what_the_document_says(self):
        for bottom in range(-2, 41):
            for top in range(-2, 44):
                divides = [k for k in range(2, 50) if top % k == 0 and bottom % k == 0]
                due = 1 <= bottom and 0 <= top <= bottom and not divides
                self.assertIs(is_chance((top, bottom)), due, (top, bottom))

    def test_all_tops_of_the_greatest_bottoms(self):
        for bottom in (997, 999, 1000):
            for top in range(bottom + 1):
                divides = [k for k in range(2, bottom + 1)
                           if bottom % k == 0 and top % k == 0]
                self.assertIs(is_chance((top, bottom)), not divides, (top, bottom))

    def test_nothing_is_changed_and_the_answer_stays(self):
        for thing in list(wrong_chances().values()) + plain_things() + [(1, 2)]:
            ahead = copy.deepcopy(thing)
            told = is_chance(thing)
            self.assertEqual(thing, ahead)
            self.assertIs(is_chance(thing), told)


class AreChances(Asking):
    def test_as_many_as_there_are_ties(self):
        for web in small_webs() + [FULL]:
            many = len(web[1])
            for chance in ((0, 1), (1, 1), (1, 2), (999, 1000)):
                self.assertIs(are_chances(web, (chance,) * many), True, web)
                self.assertIs(are_chances(web, (chance,) * (many + 1)), False, web)
                if many > 0:
                    self.assertIs(are_chances(web, (chance,) * (many - 1)), False, web)

    def test_unlike_ones(self):
        self.assertIs(are_chances(PATH, ((1, 2), (0, 1), (2, 3))), True)
        self.assertIs(are_chances(TWINS, ((1, 1), (1, 1000), (3, 7))), True)

    def test_no_ties(self):
        for web in (LONE, EMPTY):
            self.assertIs(are_chances(web, ()), True)
            self.assertIs(are_chances(web, []), False)
            self.assertIs(are_chances(web, ((1, 2),)), False)

    def test_lists(self):
        self.assertIs(are_chances(PATH, [(1, 2), (1, 2), (1, 2)]), False)
        self.assertIs(are_chances(PATH, ((1, 2), [1, 2], (1, 2))), False)

    def test_one_that_is_no_chance(self):
        for why, thing in wrong_chances().items():
            for at in range(3):
                tried = [(1, 2), (0, 1), (2, 3)]
                tried[at] = thing
                self.assertIs(are_chances(PATH, tuple(tried)), False, (why, at))

    def test_anything(self):
        for web in (PATH, FULL, (2, ((0, 1),))):
            for thing in plain_things():
                self.assertIs(are_chances(web, thing), False, thing)
        for thing in plain_things():
            self.assertIs(are_chances(LONE, thing), False, thing)

    def test_anything_in_place_of_a_chance(self):
        for thing in plain_things():
            self.assertIs(are_chances((2, ((0, 1),)), (thing,)), thing == (1, 1), thing)

    def test_no_web(self):
        for web in no_webs():
            for thing in ((), None, ((1, 2),)):
                self.assertRefused(NoWeb, are_chances, web, thing)

    def test_nothing_is_changed_and_the_answer_stays(self):
        for thing in plain_things() + [((1, 2), (1, 2), (1, 2))]:
            ahead = copy.deepcopy(thing)
            told = are_chances(PATH, thing)
            self.assertEqual(thing, ahead)
            self.assertIs(are_chances(PATH, thing), told)


if __name__ == "__main__":
    unittest.main()
