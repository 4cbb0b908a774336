import copy
import itertools
import unittest
from fractions import Fraction

from tests.samples import (
    ALIKE, APART, EMPTY, FULL, GREAT, HALVES, LONE, PATH, PRIMES, TRIANGLE, TWINS, Asking, as_tuple,
    chances_of, chances_put, least_by_parts, lots_of, nested, no_chances, no_places, no_webs,
    places_of, plain_things, plainly_none, small_webs, strange_things, summed_share,
    walked_cuts, walked_good,
)
from tiechances.bounds import (
    bounds, is_lower, is_upper, lower_paper, lower_shows, upper_paper, upper_shows,
)
from tiechances.errors import NoChances, NoPaper, NoPlaces, NoWeb

SURE = {many: ((1, 1),) * many for many in range(9)}
NEVER = {many: ((0, 1),) * many for many in range(9)}
# Between 0 and 3 two ways of two ties each.
RING = (4, ((0, 1), (0, 2), (1, 3), (2, 3)))
# The same with a tie between 1 and 2.
BRIDGE = (4, ((0, 1), (0, 2), (1, 2), (1, 3), (2, 3)))


def right_lots(web, places):
    """By each question: the lots that are right in such a paper."""
    return ((is_lower, walked_good(web, places)), (is_upper, walked_cuts(web, places)))


def are_right(paper, right):
    """Whether a tuple of lots is such a paper, by the document's words."""
    if list(paper) != sorted(set(paper)) or () in paper:
        return False
    if any(set(one) & set(other) for one, other in itertools.combinations(paper, 2)):
        return False
    return all(lot in right for lot in paper)


def shown_below(chances, paper):
    lacks = Fraction(1)
    for lot in paper:
        whole = Fraction(1)
        for number in lot:
            whole *= Fraction(*chances[number])
        lacks *= 1 - whole
    return 1 - lacks


def shown_above(chances, paper):
    found = Fraction(1)
    for lot in paper:
        none = Fraction(1)
        for number in lot:
            none *= 1 - Fraction(*chances[number])
        found *= 1 - none
    return found


def papers_from(lots, taken=()):
    """All papers of these lots, each looked at once: with each lot that is apart, or not."""
    if not lots:
        return [taken]
    found = papers_from(lots[1:], taken)
    if lots[0] and not any(set(lots[0]) & set(lot) for lot in taken):
        found = found + papers_from(lots[1:], taken + (lots[0],))
    return found


def best_below(web, chances, places):
    papers = papers_from(least_by_parts(walked_good(web, places)))
    most = max(shown_below(chances, paper) for paper in papers)
    return min(paper for paper in papers if shown_below(chances, paper) == most)


def best_above(web, chances, places):
    papers = papers_from(least_by_parts(walked_cuts(web, places)))
    least = min(shown_above(chances, paper) for paper in papers)
    return min(paper for paper in papers if shown_above(chances, paper) == least)


def asked():
    """Webs with chances and places: some small ones, and those of many ties."""
    found = []
    for at, web in enumerate(small_webs()[::4] + [PATH, TRIANGLE, TWINS, LONE, EMPTY, RING, BRIDGE]):
        found.extend((web, chances_of(web, at), places) for places in places_of(web))
    for web in GREAT:
        many = len(web[1])
        for chances in (chances_of(web, 1), HALVES[many], PRIMES[:many], SURE[many], NEVER[many]):
            found.extend((web, chances, places) for places in places_of(web))
    return found


class Papers(Asking):
    def test_ordinary(self):
        self.assertIs(is_lower(TRIANGLE, (0, 1), ((0,), (1, 2))), True)
        self.assertIs(is_lower(TRIANGLE, (0, 1), ((1, 2),)), True)
        self.assertIs(is_lower(TRIANGLE, (0, 1), ((0, 1, 2),)), True)
        self.assertIs(is_upper(RING, (0, 3), ((0, 1), (2, 3))), True)
        self.assertIs(is_upper(RING, (0, 3), ((0, 1, 2, 3),)), True)
        self.assertIs(is_upper(PATH, (0, 3), ((0,), (1,), (2,))), True)

    def test_nothing_is_a_paper(self):
        for web in small_webs() + list(GREAT) + [LONE, EMPTY]:
            for places in places_of(web):
                self.assertIs(is_lower(web, places, ()), True)
                self.assertIs(is_upper(web, places, ()), True)

    def test_one_place(self):
        self.assertIs(is_lower(PATH, (1,), ((0,), (1, 2))), True)
        self.assertIs(is_upper(PATH, (1,), ((0, 1, 2),)), False)
        self.assertIs(is_lower(LONE, (0,), ((),)), False)
        self.assertIs(is_lower(PATH, (1,), ((),)), False)

    def test_webs_in_pieces(self):
        self.assertIs(is_upper(APART, (0, 1), ((0,), (1, 3), (2,))), True)
        self.assertIs(is_lower(APART, (0, 1), ((0, 1, 2, 3, 4),)), False)
        self.assertIs(is_upper(APART, (0, 1), ((),)), False)
        self.assertIs(is_upper(EMPTY, (0, 1), ((),)), False)

    def test_all_rows_of_lots_by_the_words_of_the_document(self):
        for web, most in ((TRIANGLE, 3), (TWINS, 3), (PATH, 3), (RING, 2), ((2, ((0, 1),) * 2), 4)):
            for places in places_of(web):
                for ask, right in right_lots(web, places):
                    for many in range(most + 1):
                        for paper in itertools.product(lots_of(len(web[1])), repeat=many):
                            self.assertIs(ask(web, places, paper), are_right(paper, right),
                                          (ask, web, places, paper))

    def test_each_lot_of_many_ties(self):
        for web in GREAT:
            for places in places_of(web):
                for ask, right in right_lots(web, places):
                    for lot in lots_of(len(web[1]))[1:]:
                        self.assertIs(ask(web, places, (lot,)), lot in right, (web, places, lot))


class WrongPapers(Asking):
    def assertNone(self, below, above):
        self.assertIs(is_lower(TRIANGLE, (0, 1), below), False, below)
        self.assertIs(is_upper(PATH, (0, 3), above), False, above)

    def test_the_right_ones(self):
        self.assertIs(is_lower(TRIANGLE, (0, 1), ((0,), (1, 2))), True)
        self.assertIs(is_upper(PATH, (0, 3), ((0,), (1, 2))), True)

    def test_an_empty_lot(self):
        self.assertNone(((), (0,), (1, 2)), ((), (0,), (1, 2)))
        self.assertNone(((),), ((),))
        self.assertNone(((), ()), ((), ()))

    def test_a_tie_in_common(self):
        self.assertNone(((0,), (0, 1)), ((0,), (0, 1)))
        self.assertNone(((0,), (0, 1, 2), (1, 2)), ((0,), (0, 2), (1,)))

    def test_out_of_order_or_twice(self):
        self.assertNone(((1, 2), (0,)), ((1, 2), (0,)))
        self.assertNone(((0,), (0,)), ((0,), (0,)))
        self.assertNone(((0,), (1, 2), (1, 2)), ((0,), (1, 2), (1, 2)))

    def test_lots_that_do_not_rise(self):
        self.assertNone(((0,), (2, 1)), ((0,), (2, 1)))
        self.assertNone(((0, 0), (1, 2)), ((0, 0), (1, 2)))

    def test_lots_that_are_not_right(self):
        self.assertNone(((0,), (1,)), ((0,), (3,)))
        self.assertIs(is_lower(TRIANGLE, (0, 1), ((0,), (2,))), False)
        self.assertIs(is_upper(TRIANGLE, (0, 1), ((0,),)), False)
        self.assertIs(is_upper(TRIANGLE, (0, 1), ((1, 2),)), False)

    def test_numbers_that_are_none(self):
        for number in (-1, 3, 8, 10 ** 30 - 1, 1 - 10 ** 30, "2", None, (2,), [2], {}, 2.0):
            self.assertNone(((0,), (1, number)), ((0,), (1, number)))
            self.assertNone(((number,), (1, 2)), ((number,), (1, 2)))
        self.assertNone(((False,), (1, 2)), ((False,), (1, 2)))
        self.assertNone(((0,), (True, 2)), ((0,), (True, 2)))

    def test_lists_for_tuples(self):
        for thing in ([], [(0,), (1, 2)], ([0], (1, 2)), ((0,), [1, 2]), [[0], [1, 2]], ([],)):
            self.assertNone(thing, thing)

    def test_other_things(self):
        for thing in (None, "", "0", 0, True, False, {}, {(0,): (1, 2)}, (0, 1), (None,), ("0",),
                      ({0: 0},), ((0,), None), ((0,), "12"), ((0,), {1: 1, 2: 2})):
            self.assertNone(thing, thing)

    def test_anything(self):
        # Of all these none is a right paper but the lot of tie 1 alone, as an upper one.
        for thing in plain_things():
            self.assertIs(is_lower(TRIANGLE, (0, 1), thing), False, thing)
            self.assertIs(is_upper(PATH, (0, 3), thing), thing == ((1,),), thing)
            self.assertNone((thing, (1, 2)), (thing, (1, 2)))
            if thing != 2:
                self.assertNone(((0,), (1, thing)), ((0,), (1, thing)))
            self.assertIs(is_lower(LONE, (0,), thing), False, thing)
            self.assertIs(is_upper(EMPTY, (0, 1), thing), False, thing)

    def test_deep_things(self):
        for wrap in (lambda thing: (thing,), lambda thing: ((0,), thing), lambda thing: [thing],
                     lambda thing: (thing, (1, 2)), lambda thing: {(0,): thing}):
            for depth in (3, 5, 12, 24, 30):
                self.assertNone(nested(wrap, depth), nested(wrap, depth))

    def test_nothing_is_changed_and_the_answer_stays(self):
        for thing in plain_things() + [[(0,), [1, 2]], ([0], {1: [2]}), ((0,), (1, 2))]:
            ahead = copy.deepcopy(thing)
            for ask in (is_lower, is_upper):
                told = ask(TRIANGLE, (0, 1), thing)
                self.assertIs(ask(TRIANGLE, (0, 1), thing), told)
            self.assertEqual(thing, ahead)

    def test_refusals(self):
        for ask in (is_lower, is_upper):
            for web in (PATH, TWINS, FULL):
                for thing in ((), ((0,),), None):
                    self.assertInOrder(ask, (web, (0,), thing), (NoWeb, 0, no_webs()),
                                       (NoPlaces, 1, no_places(web) + plainly_none()))


class Shown(Asking):
    def test_ordinary(self):
        chances = ((1, 2), (1, 3), (1, 4), (1, 5))
        self.assertEqual(lower_shows(RING, chances, (0, 3), ((0, 2), (1, 3))), (11, 60))
        self.assertEqual(lower_shows(RING, chances, (0, 3), ((0, 2),)), (1, 8))
        self.assertEqual(upper_shows(RING, chances, (0, 3), ((0, 1), (2, 3))), (4, 15))
        self.assertEqual(upper_shows(RING, chances, (0, 3), ((2, 3),)), (2, 5))

    def test_nothing_shows_nought_and_one(self):
        for web, chances, places in asked():
            self.assertEqual(lower_shows(web, chances, places, ()), (0, 1))
            self.assertEqual(upper_shows(web, chances, places, ()), (1, 1))

    def test_nought_and_one(self):
        below, above = ((0, 2), (1, 3)), ((0, 1), (2, 3))
        self.assertEqual(lower_shows(RING, SURE[4], (0, 3), below), (1, 1))
        self.assertEqual(upper_shows(RING, SURE[4], (0, 3), above), (1, 1))
        self.assertEqual(lower_shows(RING, NEVER[4], (0, 3), below), (0, 1))
        self.assertEqual(upper_shows(RING, NEVER[4], (0, 3), above), (0, 1))
        self.assertEqual(lower_shows(PATH, HALVES[3], (0,), ((0,), (1,), (2,))), (7, 8))
        self.assertEqual(upper_shows(APART, HALVES[5], (0, 1), ((0,), (1, 2))), (3, 8))

    def test_papers_show_what_they_should_and_the_share_lies_between(self):
        for web, chances, places in asked():
            due = summed_share(web, chances, places)
            for paper in papers_from(walked_good(web, places)[:10]):
                told = lower_shows(web, chances, places, paper)
                self.assertFraction(told)
                self.assertEqual(Fraction(*told), shown_below(chances, paper), (web, paper))
                self.assertLessEqual(Fraction(*told), due, (web, chances, places, paper))
            for paper in papers_from(walked_cuts(web, places)[-10:]):
                told = upper_shows(web, chances, places, paper)
                self.assertFraction(told)
                self.assertEqual(Fraction(*told), shown_above(chances, paper), (web, paper))
                self.assertGreaterEqual(Fraction(*told), due, (web, chances, places, paper))

    def test_refusals(self):
        wrong = [((),), ((0, 1), (0, 2)), ((2, 3), (0, 1)), ((0, 1), (0, 1)), [(0, 1), (2, 3)],
                 ([0, 1], (2, 3)), ((0, 1), (2, 4)), ((0, 1), (True, 3)), ((0,),)]
        for thing in strange_things():
            wrong.extend([(thing,), (thing, (2, 3)), ((0, 1), thing), ((0, thing),)])
        wrong = wrong + plain_things() + strange_things()
        self.assertInOrder(
            lower_shows, (RING, HALVES[4], (0, 3), ((0, 2), (1, 3))),
            (NoWeb, 0, no_webs()), (NoChances, 1, no_chances(RING)),
            (NoPlaces, 2, no_places(RING) + plainly_none()),
            (NoPaper, 3, wrong + [((0, 1), (2, 3))]))
        self.assertInOrder(
            upper_shows, (RING, HALVES[4], (0, 3), ((0, 1), (2, 3))),
            (NoWeb, 0, no_webs()), (NoChances, 1, no_chances(RING)),
            (NoPlaces, 2, no_places(RING) + plainly_none()),
            (NoPaper, 3, wrong + [((0, 2), (1, 3))]))

    def test_a_refusal_changes_nothing(self):
        paper = [[0, 2], [1, 3]]
        for ask in (lower_shows, upper_shows):
            self.assertRefused(NoPaper, ask, RING, HALVES[4], (0, 3), paper)
            self.assertRefused(NoPaper, ask, RING, HALVES[4], (0, 3), tuple(paper))
        self.assertEqual(paper, [[0, 2], [1, 3]])


class Best(Asking):
    def test_ordinary(self):
        self.assertEqual(lower_paper(RING, HALVES[4], (0, 3)), ((0, 2), (1, 3)))
        self.assertEqual(upper_paper(RING, HALVES[4], (0, 3)), ((0, 1), (2, 3)))
        self.assertEqual(bounds(RING, HALVES[4], (0, 3)), ((7, 16), (9, 16)))
        # The cuts across: one tie of each way.
        chances = ((1, 10), (9, 10), (9, 10), (1, 10))
        self.assertEqual(upper_paper(RING, chances, (0, 3)), ((0, 3), (1, 2)))

    def test_fewer_lots_may_show_more(self):
        self.assertEqual(lower_paper(BRIDGE, HALVES[5], (0, 3)), ((0, 3), (1, 4)))
        chances = ((9, 10), (1, 10), (9, 10), (1, 10), (9, 10))
        self.assertEqual(lower_paper(BRIDGE, chances, (0, 3)), ((0, 2, 4),))
        self.assertEqual(upper_paper(BRIDGE, HALVES[5], (0, 3)), ((0, 1), (3, 4)))
        chances = ((9, 10), (1, 10), (1, 10), (1, 10), (9, 10))
        self.assertEqual(upper_paper(BRIDGE, chances, (0, 3)), ((1, 2, 3),))

    def test_of_several_the_first_as_tuples_compare(self):
        self.assertEqual(lower_paper(TRIANGLE, HALVES[3], (0, 1, 2)), ((0, 1),))
        self.assertEqual(upper_paper(TRIANGLE, HALVES[3], (0, 1, 2)), ((0, 1),))
        # A lot that changes nothing stands in the paper just where that comes first.
        self.assertEqual(lower_paper(ALIKE, NEVER[8], (0, 1)), ())
        self.assertEqual(lower_paper(ALIKE, SURE[8], (0, 1)), ((0,),))
        chances = chances_put(HALVES[8], 3, (0, 1))
        self.assertEqual(lower_paper(ALIKE, chances, (0, 1)),
                         ((0,), (1,), (2,), (3,), (4,), (5,), (6,), (7,)))
        chances = chances_put(HALVES[8], 7, (0, 1))
        self.assertEqual(lower_paper(ALIKE, chances, (0, 1)),
                         ((0,), (1,), (2,), (3,), (4,), (5,), (6,)))
        chances = chances_put(HALVES[8], 7, (1, 1))
        self.assertEqual(lower_paper(ALIKE, chances, (0, 1)),
                         ((0,), (1,), (2,), (3,), (4,), (5,), (6,), (7,)))
        self.assertEqual(upper_paper(PATH, SURE[3], (0, 3)), ())
        self.assertEqual(upper_paper(PATH, NEVER[3], (0, 3)), ((0,),))
        self.assertEqual(upper_paper(PATH, ((1, 1), (1, 2), (1, 1)), (0, 3)), ((0,), (1,)))

    def test_one_place_and_webs_in_pieces(self):
        for web, places in ((LONE, (0,)), (EMPTY, (3,)), (FULL, (4,)), (PATH, (0,)),
                            (EMPTY, (0, 1)), (APART, (0, 1)), (APART, (0, 1, 2, 3, 4, 5))):
            for chances in (HALVES, SURE, NEVER):
                mine = chances[len(web[1])]
                self.assertEqual(lower_paper(web, mine, places), ())
                self.assertEqual(upper_paper(web, mine, places), ())
                self.assertEqual(bounds(web, mine, places), ((0, 1), (1, 1)))

    def test_by_all_papers(self):
        for web, chances, places in asked():
            due = best_below(web, chances, places)
            self.assertEqual(lower_paper(web, chances, places), due, (web, chances, places))
            due = best_above(web, chances, places)
            self.assertEqual(upper_paper(web, chances, places), due, (web, chances, places))

    def test_the_told_papers_are_papers_and_show_the_bounds(self):
        for web, chances, places in asked():
            below = lower_paper(web, chances, places)
            above = upper_paper(web, chances, places)
            self.assertIs(is_lower(web, places, below), True, (web, chances, places))
            self.assertIs(is_upper(web, places, above), True, (web, chances, places))
            due = (lower_shows(web, chances, places, below),
                   upper_shows(web, chances, places, above))
            self.assertEqual(bounds(web, chances, places), due)
            self.assertEqual(due, (as_tuple(shown_below(chances, below)),
                                   as_tuple(shown_above(chances, above))))

    def test_the_share_lies_between_the_bounds(self):
        for web, chances, places in asked():
            told = bounds(web, chances, places)
            due = summed_share(web, chances, places)
            self.assertLessEqual(Fraction(*told[0]), due, (web, chances, places))
            self.assertGreaterEqual(Fraction(*told[1]), due, (web, chances, places))

    def test_kinds_and_the_same_answer(self):
        for web, chances, places in asked()[::7]:
            for ask in (lower_paper, upper_paper):
                paper = ask(web, chances, places)
                self.assertEqual({type(part) for part in (paper,) + paper}, {tuple})
                self.assertEqual({type(number) for lot in paper for number in lot} - {int}, set())
                self.assertEqual(ask(web, chances, places), paper)
            told = bounds(web, chances, places)
            self.assertEqual((type(told), len(told)), (tuple, 2))
            self.assertFraction(told[0])
            self.assertFraction(told[1])
            self.assertEqual(bounds(web, chances, places), told)

    def test_refusals(self):
        for ask in (lower_paper, upper_paper, bounds):
            for web in (PATH, FULL):
                self.assertInOrder(
                    ask, (web, HALVES[len(web[1])], (0, 2)),
                    (NoWeb, 0, no_webs()), (NoChances, 1, no_chances(web)),
                    (NoPlaces, 2, no_places(web) + plainly_none()))


if __name__ == "__main__":
    unittest.main()
