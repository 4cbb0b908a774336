import itertools
import unittest
from fractions import Fraction

from tests.samples import (
    ALIKE, APART, EMPTY, FULL, GREAT, HALVES, LONE, PATH, TRIANGLE, TWINS, Asking, as_tuple,
    chances_of, lots_of, no_chances, no_numbers, no_place_things, no_webs, reached, small_webs,
    summed_share,
)
from tiechances.chances import are_chances
from tiechances.errors import NoChance, NoChances, NoPlace, NoTie, NoWeb, TooMany
from tiechances.joins import beside, hung, pair_made, row_made
from tiechances.shares import share
from tiechances.webs import is_web

ONE = (2, ((0, 1),))


def webs_to_join():
    found = [web for web in small_webs() if web[0] <= 4][::11]
    return found + [LONE, EMPTY, ONE, PATH, TRIANGLE, TWINS, (5, ((0, 4), (0, 4), (1, 4))),
                    (1, ()), (4, ((0, 1), (0, 2), (0, 3), (1, 2), (1, 3), (2, 3))), (2, ())]


def joined(one, other, names, many):
    """The tuple (web, whence), the other's places by names, put in order one by one."""
    rows = []
    for which, web in enumerate((one, other)):
        for number, (a, b) in enumerate(web[1]):
            tie = {names[a], names[b]} if which else {a, b}
            rows.append((min(tie), max(tie), which, number))
    rows.sort()
    return ((many, tuple(row[:2] for row in rows)), tuple(row[2:] for row in rows))


def is_too_much(one, other, many):
    return many > 6 or len(one[1]) + len(other[1]) > 8


class Beside(Asking):
    def test_ordinary(self):
        self.assertEqual(beside(ONE, ONE), ((4, ((0, 1), (2, 3))), ((0, 0), (1, 0))))
        self.assertEqual(beside(TRIANGLE, TWINS), (
            (6, ((0, 1), (0, 2), (1, 2), (3, 4), (3, 4), (4, 5))),
            ((0, 0), (0, 1), (0, 2), (1, 0), (1, 1), (1, 2))))

    def test_no_ties(self):
        self.assertEqual(beside(LONE, LONE), ((2, ()), ()))
        self.assertEqual(beside(LONE, ONE), ((3, ((1, 2),)), ((1, 0),)))
        self.assertEqual(beside(ONE, LONE), ((3, ((0, 1),)), ((0, 0),)))

    def test_six_places_and_seven(self):
        self.assertEqual(beside((5, ()), LONE), ((6, ()), ()))
        self.assertEqual(beside(LONE, (5, ())), ((6, ()), ()))
        self.assertEqual(beside((3, ()), (3, ())), ((6, ()), ()))
        for one, other in ((EMPTY, LONE), (LONE, EMPTY), ((3, ()), (4, ())), (FULL, FULL)):
            self.assertRefused(TooMany, beside, one, other)

    def test_eight_ties_and_nine(self):
        for many in range(9):
            one, other = (2, ((0, 1),) * many), (2, ((0, 1),) * (8 - many))
            whence = tuple((0, k) for k in range(many)) + tuple((1, k) for k in range(8 - many))
            due = ((4, ((0, 1),) * many + ((2, 3),) * (8 - many)), whence)
            self.assertEqual(beside(one, other), due)
        for many in range(1, 9):
            one, other = (2, ((0, 1),) * many), (2, ((0, 1),) * (9 - many))
            self.assertRefused(TooMany, beside, one, other)

    def test_by_the_words_of_the_document(self):
        for one, other in itertools.product(webs_to_join(), repeat=2):
            many = one[0] + other[0]
            if is_too_much(one, other, many):
                self.assertRefused(TooMany, beside, one, other)
            else:
                names = [one[0] + place for place in range(other[0])]
                told = beside(one, other)
                self.assertEqual(told, joined(one, other, names, many), (one, other))
                self.assertTrue(is_web(told[0]))

    def test_what_hangs_together(self):
        for one, other in itertools.product(webs_to_join()[::2], repeat=2):
            if is_too_much(one, other, one[0] + other[0]):
                continue
            web, whence = beside(one, other)
            for lot in lots_of(len(web[1]))[::3]:
                of_one = [whence[k][1] for k in lot if whence[k][0] == 0]
                of_other = [whence[k][1] for k in lot if whence[k][0] == 1]
                for place in range(one[0]):
                    self.assertEqual(reached(web, lot, place), reached(one, of_one, place))
                for place in range(other[0]):
                    due = {one[0] + there for there in reached(other, of_other, place)}
                    self.assertEqual(reached(web, lot, one[0] + place), due)

    def test_refusals(self):
        self.assertInOrder(beside, (PATH, ONE), (NoWeb, 0, no_webs()), (NoWeb, 1, no_webs()))
        for web in no_webs():
            self.assertRefused(NoWeb, beside, web, FULL)
            self.assertRefused(NoWeb, beside, FULL, web)


class Hung(Asking):
    def test_ordinary(self):
        self.assertEqual(hung(ONE, 1, ONE, 0), ((3, ((0, 1), (1, 2))), ((0, 0), (1, 0))))
        self.assertEqual(hung(ONE, 0, ONE, 1), ((3, ((0, 1), (0, 2))), ((0, 0), (1, 0))))
        # The others of the other one are numbered on in their order: 0 is 3 there, 2 is 4.
        self.assertEqual(hung(TRIANGLE, 1, (3, ((0, 1), (0, 2))), 1), (
            (5, ((0, 1), (0, 2), (1, 2), (1, 3), (3, 4))),
            ((0, 0), (0, 1), (0, 2), (1, 0), (1, 1))))

    def test_ties_that_come_between(self):
        # A tie of the other one leads from place 0 and stands ahead of later ones of the one.
        self.assertEqual(hung(PATH, 0, ONE, 0), (
            (5, ((0, 1), (0, 4), (1, 2), (2, 3))), ((0, 0), (1, 0), (0, 1), (0, 2))))
        self.assertEqual(hung(PATH, 2, (3, ((0, 2), (1, 2), (1, 2))), 2), (
            (6, ((0, 1), (1, 2), (2, 3), (2, 4), (2, 5), (2, 5))),
            ((0, 0), (0, 1), (0, 2), (1, 0), (1, 1), (1, 2))))

    def test_alike_ties_within_one_web(self):
        self.assertEqual(hung(TWINS, 0, TWINS, 1), (
            (5, ((0, 1), (0, 1), (0, 3), (0, 3), (0, 4), (1, 2))),
            ((0, 0), (0, 1), (1, 0), (1, 1), (1, 2), (0, 2))))

    def test_no_ties_and_one_place(self):
        self.assertEqual(hung(LONE, 0, LONE, 0), (LONE, ()))
        self.assertEqual(hung(PATH, 3, LONE, 0), (PATH, ((0, 0), (0, 1), (0, 2))))
        self.assertEqual(hung(LONE, 0, ONE, 0), (ONE, ((1, 0),)))
        self.assertEqual(hung(LONE, 0, PATH, 2), (
            (4, ((0, 2), (0, 3), (1, 2))), ((1, 1), (1, 2), (1, 0))))

    def test_six_places_and_seven(self):
        self.assertEqual(hung((3, ()), 2, (4, ()), 3), ((6, ()), ()))
        self.assertEqual(hung(EMPTY, 5, LONE, 0), (EMPTY, ()))
        for one, other in ((EMPTY, ONE), (ONE, EMPTY), ((4, ()), (4, ())), (FULL, FULL)):
            self.assertRefused(TooMany, hung, one, 0, other, 0)

    def test_eight_ties_and_nine(self):
        fours = (2, ((0, 1),) * 4)
        self.assertEqual(hung(fours, 0, fours, 0), (
            (3, ((0, 1),) * 4 + ((0, 2),) * 4),
            ((0, 0), (0, 1), (0, 2), (0, 3), (1, 0), (1, 1), (1, 2), (1, 3))))
        self.assertRefused(TooMany, hung, fours, 0, (2, ((0, 1),) * 5), 0)
        self.assertRefused(TooMany, hung, ALIKE, 0, ONE, 0)
        self.assertEqual(hung(ALIKE, 0, LONE, 0)[0], ALIKE)

    def test_by_the_words_of_the_document(self):
        for one, other in itertools.product(webs_to_join(), repeat=2):
            many = one[0] + other[0] - 1
            for place, there in itertools.product(range(one[0]), range(other[0])):
                if is_too_much(one, other, many):
                    self.assertRefused(TooMany, hung, one, place, other, there)
                    continue
                later = [old for old in range(other[0]) if old != there]
                names = [place if old == there else one[0] + later.index(old)
                         for old in range(other[0])]
                told = hung(one, place, other, there)
                self.assertEqual(told, joined(one, other, names, many), (one, place, other, there))
                self.assertTrue(is_web(told[0]))

    def test_the_share_of_all_places_is_the_product_of_both(self):
        for one, other in itertools.product(webs_to_join()[1::2], repeat=2):
            if is_too_much(one, other, one[0] + other[0] - 1):
                continue
            mine, more = chances_of(one, 0), chances_of(other, 7)
            web, whence = hung(one, one[0] - 1, other, 0)
            both = tuple((mine, more)[which][number] for which, number in whence)
            due = (summed_share(one, mine, tuple(range(one[0])))
                   * summed_share(other, more, tuple(range(other[0]))))
            self.assertEqual(share(web, both, tuple(range(web[0]))), as_tuple(due))

    def test_refusals(self):
        self.assertInOrder(
            hung, (PATH, 3, TWINS, 2), (NoWeb, 0, no_webs()), (NoWeb, 2, no_webs()),
            (NoPlace, 1, no_place_things(PATH)), (NoPlace, 3, no_place_things(TWINS)))

    def test_too_many_goes_behind_all_else(self):
        for place in no_place_things(FULL):
            self.assertRefused(NoPlace, hung, FULL, place, FULL, 0)
            self.assertRefused(NoPlace, hung, FULL, 0, FULL, place)
        for web in no_webs():
            self.assertRefused(NoWeb, hung, FULL, 0, web, 0)
            self.assertRefused(NoWeb, hung, web, 0, FULL, 0)

    def test_places_are_those_of_their_own_web(self):
        self.assertRefused(NoPlace, hung, TWINS, 3, PATH, 0)
        self.assertRefused(NoPlace, hung, PATH, 0, TWINS, 3)
        self.assertEqual(hung(PATH, 3, TWINS, 0)[0][0], 6)


class Told(Asking):
    def test_kinds(self):
        for told in (beside(TWINS, ONE), hung(TWINS, 1, ONE, 0)):
            web, whence = told
            parts = [told, web, web[1], whence] + list(web[1]) + list(whence)
            self.assertEqual({type(part) for part in parts}, {tuple})
            numbers = [web[0]] + [number for pair in web[1] + whence for number in pair]
            self.assertEqual({type(number) for number in numbers}, {int})


def row_due(web, chances, place):
    """The tuple (web, chances) by the words of point 92, or the name of the refusal."""
    many, ties = web
    mine = [k for k, tie in enumerate(ties) if place in tie]
    ends = sorted({end for k in mine for end in ties[k]} - {place})
    if len(mine) != 2 or len(ends) != 2:
        return NoTie
    chance = Fraction(*chances[mine[0]]) * Fraction(*chances[mine[1]])
    if chance.denominator > 1000:
        return NoChance
    left = [old for old in range(many) if old != place]
    rows = [(tuple(left.index(end) for end in tie), 0, k, chances[k])
            for k, tie in enumerate(ties) if k not in mine]
    # Behind those that are alike with it.
    rows.append((tuple(left.index(end) for end in ends), 1, 0, as_tuple(chance)))
    rows.sort()
    return ((many - 1, tuple(row[0] for row in rows)), tuple(row[3] for row in rows))


# Products of two of these come to bottoms below 1000 and above, lower ones too.
SOME = ((1, 2), (2, 3), (3, 4), (999, 1000), (0, 1), (1, 1), (31, 32), (30, 31), (1, 40), (25, 26))


def chances_for(web, start):
    return tuple(SOME[(start + 3 * at) % len(SOME)] for at in range(len(web[1])))


class RowMade(Asking):
    def test_ordinary(self):
        chances = ((1, 2), (2, 5), (3, 4))
        self.assertEqual(row_made(PATH, chances, 1), ((3, ((0, 1), (1, 2))), ((1, 5), (3, 4))))
        self.assertEqual(row_made(PATH, chances, 2), ((3, ((0, 1), (1, 2))), ((1, 2), (3, 10))))
        self.assertEqual(row_made((3, ((0, 1), (0, 2))), chances[:2], 0),
                         ((2, ((0, 1),)), ((1, 5),)))

    def test_the_new_tie_stands_behind_those_that_are_alike(self):
        chances = ((1, 2), (1, 3), (1, 5))
        self.assertEqual(row_made(TRIANGLE, chances, 0), ((2, ((0, 1),) * 2), ((1, 5), (1, 6))))
        self.assertEqual(row_made(TRIANGLE, chances, 1), ((2, ((0, 1),) * 2), ((1, 3), (1, 10))))
        self.assertEqual(row_made(TRIANGLE, chances, 2), ((2, ((0, 1),) * 2), ((1, 2), (1, 15))))
        web = (4, ((0, 1), (0, 1), (0, 3), (1, 3), (2, 3)))
        chances = ((1, 2), (1, 3), (1, 5), (1, 7), (1, 11))
        self.assertRefused(NoTie, row_made, web, chances, 3)
        web = (4, ((0, 1), (0, 2), (0, 2), (0, 3), (2, 3)))
        self.assertEqual(row_made(web, chances, 3), (
            (3, ((0, 1), (0, 2), (0, 2), (0, 2))), ((1, 2), (1, 3), (1, 5), (1, 77))))

    def test_greater_places_are_less_by_one(self):
        web = (5, ((0, 1), (1, 4), (2, 3), (3, 4)))
        chances = ((1, 2), (1, 3), (1, 5), (1, 7))
        self.assertEqual(row_made(web, chances, 1), (
            (4, ((0, 3), (1, 2), (2, 3))), ((1, 6), (1, 5), (1, 7))))

    def test_a_place_with_none_one_three_or_two_alike_ties(self):
        self.assertRefused(NoTie, row_made, LONE, (), 0)
        self.assertRefused(NoTie, row_made, EMPTY, (), 5)
        self.assertRefused(NoTie, row_made, PATH, HALVES[3], 0)
        self.assertRefused(NoTie, row_made, PATH, HALVES[3], 3)
        self.assertRefused(NoTie, row_made, TWINS, HALVES[3], 0)
        self.assertRefused(NoTie, row_made, TWINS, HALVES[3], 1)
        self.assertRefused(NoTie, row_made, (3, ((0, 1), (0, 2), (0, 2))), HALVES[3], 0)
        self.assertRefused(NoTie, row_made, (4, ((0, 1), (0, 2), (0, 3))), HALVES[3], 0)
        self.assertRefused(NoTie, row_made, (2, ((0, 1), (0, 1))), HALVES[2], 1)

    def test_products(self):
        web = (3, ((0, 1), (1, 2)))
        for one, other, due in (
                ((1, 2), (2, 3), (1, 3)), ((3, 4), (2, 3), (1, 2)), ((0, 1), (1, 7), (0, 1)),
                ((0, 1), (0, 1), (0, 1)), ((1, 1), (1, 1), (1, 1)), ((1, 1), (4, 9), (4, 9)),
                ((1, 25), (1, 40), (1, 1000)), ((999, 1000), (1, 999), (1, 1000)),
                ((1, 1), (1, 1000), (1, 1000)), ((0, 1), (1, 1000), (0, 1)),
                ((997, 1000), (1, 997), (1, 1000))):
            self.assertEqual(row_made(web, (one, other), 1), ((2, ((0, 1),)), (due,)))
            self.assertEqual(row_made(web, (other, one), 1), ((2, ((0, 1),)), (due,)))

    def test_a_product_that_is_no_chance(self):
        web = (3, ((0, 1), (1, 2)))
        for one, other in (((1, 1000), (1, 2)), ((1, 7), (1, 143)), ((31, 32), (31, 32)),
                           ((999, 1000), (999, 1000)), ((1, 1000), (1, 1000))):
            self.assertRefused(NoChance, row_made, web, (one, other), 1)
            # NoTie goes ahead.
            self.assertRefused(NoTie, row_made, web, (one, other), 0)
            self.assertRefused(NoTie, row_made, (2, ((0, 1), (0, 1))), (one, other), 1)

    def test_by_the_words_of_the_document(self):
        for at, web in enumerate(small_webs() + list(GREAT)):
            for start in (at, at + 5):
                chances = chances_for(web, start)
                for place in range(web[0]):
                    due = row_due(web, chances, place)
                    if due in (NoTie, NoChance):
                        self.assertRefused(due, row_made, web, chances, place)
                        continue
                    told = row_made(web, chances, place)
                    self.assertEqual(told, due, (web, chances, place))
                    self.assertTrue(is_web(told[0]))
                    self.assertTrue(are_chances(*told))

    def test_for_places_without_this_one_the_share_stays(self):
        made = 0
        for at, web in enumerate(small_webs()[::3] + list(GREAT)):
            chances = chances_for(web, at)
            for place in range(web[0]):
                if row_due(web, chances, place) in (NoTie, NoChance):
                    continue
                made += 1
                fewer, less = row_made(web, chances, place)
                for places in lots_of(web[0])[1:]:
                    if place not in places:
                        then = tuple(old - (old > place) for old in places)
                        due = as_tuple(summed_share(web, chances, places))
                        self.assertEqual(share(fewer, less, then), due, (web, place, places))
        self.assertGreater(made, 20)

    def test_refusals(self):
        self.assertInOrder(
            row_made, (PATH, HALVES[3], 1), (NoWeb, 0, no_webs()),
            (NoChances, 1, no_chances(PATH)), (NoPlace, 2, no_place_things(PATH)))
        self.assertInOrder(
            row_made, (FULL, HALVES[8], 4), (NoWeb, 0, no_webs()),
            (NoChances, 1, no_chances(FULL)), (NoPlace, 2, no_place_things(FULL)))


def pair_due(web, chances, number):
    """The tuple (web, chances) by the words of point 93, or the name of the refusal."""
    many, ties = web
    if number + 1 >= len(ties) or ties[number] != ties[number + 1]:
        return NoTie
    none = (1 - Fraction(*chances[number])) * (1 - Fraction(*chances[number + 1]))
    if none.denominator > 1000:
        return NoChance
    left, less = list(ties), list(chances)
    left[number:number + 2] = [ties[number]]
    less[number:number + 2] = [as_tuple(1 - none)]
    return ((many, tuple(left)), tuple(less))


class PairMade(Asking):
    def test_ordinary(self):
        chances = ((1, 2), (1, 3), (3, 4))
        self.assertEqual(pair_made(TWINS, chances, 0), ((3, ((0, 1), (1, 2))), ((2, 3), (3, 4))))
        web = (3, ((0, 1), (1, 2), (1, 2)))
        self.assertEqual(pair_made(web, chances, 1), ((3, ((0, 1), (1, 2))), ((1, 2), (5, 6))))

    def test_three_alike(self):
        web = (2, ((0, 1),) * 3)
        chances = ((1, 2), (1, 3), (1, 5))
        self.assertEqual(pair_made(web, chances, 0), ((2, ((0, 1),) * 2), ((2, 3), (1, 5))))
        self.assertEqual(pair_made(web, chances, 1), ((2, ((0, 1),) * 2), ((1, 2), (7, 15))))
        self.assertRefused(NoTie, pair_made, web, chances, 2)

    def test_the_beginning_and_the_end(self):
        chances = tuple((1, bottom) for bottom in (2, 3, 5, 7, 11, 13, 17, 19))
        told = pair_made(ALIKE, chances, 0)
        self.assertEqual(told, ((2, ((0, 1),) * 7), ((2, 3),) + chances[2:]))
        told = pair_made(ALIKE, chances, 6)
        self.assertEqual(told, ((2, ((0, 1),) * 7), chances[:6] + ((35, 323),)))
        self.assertRefused(NoTie, pair_made, ALIKE, chances, 7)

    def test_the_next_one_is_not_alike(self):
        for number in range(3):
            self.assertRefused(NoTie, pair_made, PATH, HALVES[3], number)
        self.assertRefused(NoTie, pair_made, TWINS, HALVES[3], 1)
        self.assertRefused(NoTie, pair_made, TWINS, HALVES[3], 2)
        self.assertRefused(NoTie, pair_made, ONE, HALVES[1], 0)
        for number in (1, 2, 3, 5, 6, 7):
            self.assertRefused(NoTie, pair_made, FULL, HALVES[8], number)

    def test_chances(self):
        web = (2, ((0, 1),) * 2)
        for one, other, due in (
                ((0, 1), (0, 1), (0, 1)), ((1, 1), (0, 1), (1, 1)), ((1, 1), (1, 1), (1, 1)),
                ((1, 1), (1, 1000), (1, 1)), ((0, 1), (1, 1000), (1, 1000)),
                ((1, 3), (1, 4), (1, 2)), ((1, 2), (1, 500), (501, 1000)),
                ((999, 1000), (1, 1), (1, 1)), ((1, 1000), (998, 999), (999, 1000))):
            self.assertEqual(pair_made(web, (one, other), 0), ((2, ((0, 1),)), (due,)))
            self.assertEqual(pair_made(web, (other, one), 0), ((2, ((0, 1),)), (due,)))

    def test_what_were_no_chance(self):
        for one, other in (((1, 1000), (1, 2)), ((1, 1000), (1, 1000)), ((1, 7), (1, 143)),
                           ((31, 32), (31, 32))):
            self.assertRefused(NoChance, pair_made, (2, ((0, 1),) * 2), (one, other), 0)
            # NoTie goes ahead.
            self.assertRefused(NoTie, pair_made, (2, ((0, 1),) * 2), (one, other), 1)
            self.assertRefused(NoTie, pair_made, (3, ((0, 1), (0, 2))), (one, other), 0)

    def test_by_the_words_of_the_document(self):
        for at, web in enumerate(small_webs() + list(GREAT)):
            for start in (at, at + 4):
                chances = chances_for(web, start)
                for number in range(len(web[1])):
                    due = pair_due(web, chances, number)
                    if due in (NoTie, NoChance):
                        self.assertRefused(due, pair_made, web, chances, number)
                        continue
                    told = pair_made(web, chances, number)
                    self.assertEqual(told, due, (web, chances, number))
                    self.assertTrue(is_web(told[0]))
                    self.assertTrue(are_chances(*told))

    def test_for_any_places_the_share_stays(self):
        made = 0
        for at, web in enumerate(small_webs()[::3] + list(GREAT)):
            chances = chances_for(web, at)
            for number in range(len(web[1])):
                if pair_due(web, chances, number) in (NoTie, NoChance):
                    continue
                made += 1
                fewer, less = pair_made(web, chances, number)
                for places in lots_of(web[0])[1:]:
                    due = as_tuple(summed_share(web, chances, places))
                    self.assertEqual(share(fewer, less, places), due, (web, number, places))
        self.assertGreater(made, 20)

    def test_refusals(self):
        self.assertInOrder(
            pair_made, (TWINS, HALVES[3], 0), (NoWeb, 0, no_webs()),
            (NoChances, 1, no_chances(TWINS)), (NoTie, 2, no_numbers(TWINS)))
        self.assertInOrder(
            pair_made, (FULL, HALVES[8], 4), (NoWeb, 0, no_webs()),
            (NoChances, 1, no_chances(FULL)), (NoTie, 2, no_numbers(FULL)))
        self.assertRefused(NoTie, pair_made, APART, HALVES[5], -5)


if __name__ == "__main__":
    unittest.main()
