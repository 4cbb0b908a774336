import copy
import itertools
import unittest
from fractions import Fraction

from tests.samples import (
    ALIKE, APART, EMPTY, FULL, GREAT, LONE, PATH, TRIANGLE, TWINS, Asking, Touchy,
    as_tuple, chances_of, is_good, lots_of, nested, no_chances, no_places, no_webs,
    orders_of, places_of, plain_things, plainly_none, reached, rest_of, small_webs,
    strange_things, summed_share, walked_good,
)
from tiechances.errors import NoChances, NoPaper, NoPlaces, NoWeb
from tiechances.onces import is_once_paper, once_paper, once_shows, trees_paper
from tiechances.shares import share

HALVES = ((1, 2),) * 3
ONE = (((), ()),)
# For TWINS and the places (0, 2): tie 2 and one of the two alike ones.
PAPER = (((0, 2), ()), ((1, 2), (0,)))
PAIR = (2, ((0, 1), (0, 1)))
THREE = (2, ((0, 1),) * 3)
TWO = (3, ((0, 1), (1, 2)))


def is_once(web, places, paper):
    """Whether pairs of lots, in this order, are an at-once paper, by the document's words."""
    if list(paper) != sorted(set(paper)):
        return False
    for held, not_held in paper:
        if set(held) & set(not_held) or not is_good(web, held, places):
            return False
    for one, other in itertools.combinations(paper, 2):
        if not set(one[0]) & set(other[1]) and not set(other[0]) & set(one[1]):
            return False
    return all(any(set(held) <= set(lot) and not set(not_held) & set(lot)
                   for held, not_held in paper)
               for lot in walked_good(web, places))


def all_good_paper(web, places):
    """The paper of all good lots, each with all other ties not held."""
    return tuple((lot, rest_of(web, lot)) for lot in walked_good(web, places))


def pairs_by(web, places, order, held=(), gone=()):
    """The pairs of a paper that takes the ties in this order, as far as there is need."""
    if is_good(web, held, places):
        return [(tuple(sorted(held)), tuple(sorted(gone)))]
    if not order:
        return []
    number, *later = order
    return (pairs_by(web, places, later, held + (number,), gone)
            + pairs_by(web, places, later, held, gone + (number,)))


def papers(web, places):
    """Several papers of the web and places."""
    return [all_good_paper(web, places)] + [
        tuple(sorted(pairs_by(web, places, order))) for order in orders_of(web)]


def asked():
    """Webs with places, and papers of them."""
    found = []
    for web in small_webs()[::6] + [PATH, TRIANGLE, TWINS, LONE, EMPTY, PAIR] + list(GREAT):
        for places in places_of(web):
            found.extend((web, places, paper) for paper in papers(web, places))
    return found


def short_asked():
    return [one for one in asked() if len(one[2]) <= 12]


class RightPapers(Asking):
    def assertOne(self, web, places, thing):
        self.assertIs(is_once_paper(web, places, thing), True, (web, places, thing))

    def test_ordinary(self):
        self.assertOne(TWINS, (0, 2), PAPER)
        self.assertOne(TWINS, (0, 2), (((0, 2), (1,)), ((1, 2), ())))
        self.assertOne(PATH, (0, 2), (((0, 1), ()),))
        self.assertOne(PATH, (0, 2), (((0, 1), (2,)), ((0, 1, 2), ())))
        self.assertOne(TRIANGLE, (0, 1), (((0,), ()), ((1, 2), (0,))))
        self.assertOne(TRIANGLE, (0, 1, 2), (((0, 1), ()), ((0, 2), (1,)), ((1, 2), (0,))))

    def test_one_place(self):
        for web in small_webs() + list(GREAT):
            for place in range(web[0]):
                self.assertOne(web, (place,), ONE)
        self.assertOne(PATH, (2,), (((), (1,)), ((1,), ())))

    def test_nothing_where_no_lot_is_good_and_only_there(self):
        for web in small_webs() + list(GREAT) + [LONE, EMPTY]:
            for places in places_of(web):
                self.assertIs(is_once_paper(web, places, ()), not walked_good(web, places))

    def test_all_good_lots_and_several_orders_of_the_ties(self):
        for web, places, paper in asked():
            self.assertOne(web, places, paper)

    def test_other_ties_than_an_order_would_take(self):
        # After tie 0 the one goes on by tie 1, the other by tie 2.
        self.assertOne(THREE, (0, 1), (((0,), (1,)), ((0, 1), ()), ((1,), (0, 2)), ((2,), (0,))))
        self.assertOne(THREE, (0, 1), (((0,), (1,)), ((0, 1, 2), ()), ((1,), (2,)), ((2,), (0,))))


class AllSmallPapers(Asking):
    def test_all_rows_of_pairs_by_the_words_of_the_document(self):
        for web, most in ((PAIR, 9), (TWO, 9), (THREE, 2), (PATH, 2), (TRIANGLE, 2)):
            lots = lots_of(len(web[1]))
            pairs = sorted((held, gone) for held in lots for gone in lots
                           if not set(held) & set(gone))
            for places in places_of(web):
                for many in range(most + 1):
                    for paper in itertools.combinations(pairs, many):
                        due = is_once(web, places, paper)
                        self.assertIs(is_once_paper(web, places, paper), due, (web, paper))

    def test_pairs_with_a_tie_in_both(self):
        lots = lots_of(2)
        for web in (PAIR, TWO):
            pairs = sorted(itertools.product(lots, lots))
            for places in places_of(web):
                for many in range(4):
                    for paper in itertools.combinations(pairs, many):
                        due = is_once(web, places, paper)
                        self.assertIs(is_once_paper(web, places, paper), due, (web, paper))


class WrongPapers(Asking):
    def assertNone(self, thing, web=TWINS, places=(0, 2)):
        self.assertIs(is_once_paper(web, places, thing), False, (web, places, thing))

    def test_nothing_where_a_lot_is_good(self):
        self.assertNone(())
        self.assertNone((), LONE, (0,))
        self.assertNone((), EMPTY, (5,))
        self.assertNone((), FULL, (0, 1, 2, 3, 4, 5))

    def test_a_good_lot_stood_for_by_none(self):
        for web, places, paper in short_asked():
            for at in range(len(paper)):
                self.assertNone(paper[:at] + paper[at + 1:], web, places)

    def test_a_tie_more_that_is_not_held_or_held(self):
        self.assertNone((((0, 2), ()), ((1, 2), (0,)))[1:])
        self.assertNone((((0, 2), (1,)), ((1, 2), (0,))))
        self.assertNone((((0, 1, 2), ()), ((1, 2), (0,))))
        self.assertNone((((0, 1), (2,)),), PATH)

    def test_a_good_lot_stood_for_by_two(self):
        self.assertNone((((0, 2), ()), ((1, 2), ())))
        for web, places, paper in short_asked():
            every = tuple(range(len(web[1])))
            if paper and (every, ()) not in paper:
                self.assertNone(tuple(sorted(paper + ((every, ()),))), web, places)

    def test_lacking_is_not_enough_to_be_not_held(self):
        self.assertNone((((0,), ()), ((1,), ())), PAIR, (0, 1))
        self.assertNone((((0,), ()), ((1,), ()), ((2,), (0, 1))), THREE, (0, 1))

    def test_held_that_is_no_good_lot(self):
        self.assertNone((((0,), (2,)),) + PAPER)
        self.assertNone((((), ()),))
        self.assertNone((((2,), ()),))
        self.assertNone((((), ()),), PATH, (0, 1))
        self.assertNone((((), (0, 1, 2)), ((0, 1), ())), PATH)
        self.assertNone((((), ()),), EMPTY, (0, 1))

    def test_a_tie_in_both(self):
        self.assertNone((((0, 2), (0,)),) + PAPER)
        self.assertNone((((0, 2), (2,)),) + PAPER)
        self.assertNone(PAPER[:1] + (((1, 2), (0, 2)),))
        self.assertNone((((0,), (0,)), ((), ())), PATH, (1,))
        self.assertNone((((), ()), ((0,), (0,))), PATH, (1,))

    def test_out_of_order_or_twice(self):
        for web, places, paper in short_asked():
            if len(paper) > 1:
                self.assertNone(paper[::-1], web, places)
                self.assertNone(paper[1:] + paper[:1], web, places)
            if paper:
                self.assertNone(paper + paper[-1:], web, places)
                self.assertNone(paper[:1] + paper, web, places)

    def test_lots_that_do_not_rise(self):
        self.assertNone((((2, 0), ()), ((1, 2), (0,))))
        self.assertNone((((0, 2, 2), ()), ((1, 2), (0,))))
        self.assertNone((((0, 2), ()), ((1, 2), (0, 0))))
        self.assertNone((((0,), (2, 1)), ((0, 1), ()), ((0, 2), (1,)), ((1, 2), (0,))),
                        TRIANGLE, (0,))

    def test_a_number_that_is_none(self):
        for number in (-1, 3, 8, 10 ** 30 - 1, 1 - 10 ** 30, "0", None, (0,), [0], {}, 0.0):
            self.assertNone((((0, number), ()), ((1, 2), (0,))))
            self.assertNone((((0, 2), (number,)), ((1, 2), (0,))))
            self.assertNone((((), (number,)), ((number,), ())), PATH, (0,))

    def test_a_truth_for_a_number(self):
        self.assertNone((((False, 2), ()), ((1, 2), (0,))))
        self.assertNone((((0, 2), ()), ((True, 2), (0,))))
        self.assertNone((((0, 2), ()), ((1, 2), (False,))))
        self.assertNone((((), (True,)), ((1,), ())), PATH, (0,))
        self.assertNone((((), (1,)), ((True,), ())), PATH, (0,))

    def test_one_part_more_or_fewer(self):
        for part in ((), ((),), ((), (), ()), ((), (), None), ((0, 2),), ((0, 2), (), ())):
            self.assertNone((part,), PATH, (0,))
            self.assertNone((part,) + PAPER)
            self.assertNone(PAPER[:1] + (part,))
        self.assertNone(((), ()), PATH, (0,))
        self.assertNone((), PATH, (0,))

    def test_lists_for_tuples(self):
        self.assertNone(list(PAPER))
        self.assertNone([list(pair) for pair in PAPER])
        self.assertNone((list(PAPER[0]), PAPER[1]))
        self.assertNone((([0, 2], ()), PAPER[1]))
        self.assertNone((((0, 2), []), PAPER[1]))
        self.assertNone((((0, 2), ()), ((1, 2), [0])))
        for thing in ([], [((), ())], ([(), ()],), (([], ()),), (((), []),)):
            self.assertNone(thing, PATH, (0,))
        self.assertNone([], EMPTY, (0, 1))

    def test_texts_dicts_and_none(self):
        for thing in ("", "()", None, {}, {(): ()}, {((), ()): True}, True, False, 0):
            self.assertNone(thing, EMPTY, (0, 1))
            self.assertNone(thing, LONE, (0,))
            self.assertNone((thing,), LONE, (0,))
            self.assertNone(((thing, ()),), LONE, (0,))
            self.assertNone((((), thing),), LONE, (0,))

    def test_anything(self):
        for web, places in ((TWINS, (0, 2)), (PATH, (0,)), (EMPTY, (0, 1)), (LONE, (0,))):
            for thing in plain_things():
                self.assertNone(thing, web, places)

    def test_anything_at_each_place_of_a_paper(self):
        for thing in plain_things():
            self.assertNone((thing,) + PAPER)
            self.assertNone(PAPER + (thing,))
            self.assertNone((PAPER[0], thing))
            self.assertNone(((thing, ()), PAPER[1]))
            self.assertNone((((0, 2), thing), PAPER[1]), TWINS, (0, 1))
            self.assertNone((((0, thing), ()), PAPER[1]), TWINS, (0, 1))

    def test_deep_things(self):
        for wrap in (lambda thing: (thing, ()), lambda thing: ((), thing),
                     lambda thing: ((thing, ()),), lambda thing: (((), thing),),
                     lambda thing: [thing, []], lambda thing: {(): thing}):
            for depth in (2, 5, 12, 24, 30):
                self.assertNone(nested(wrap, depth), PATH, (0,))
                self.assertNone((nested(wrap, depth),) + PAPER)

    def test_a_paper_of_other_places_or_of_another_web(self):
        self.assertNone(PAPER, TWINS, (0, 1))
        self.assertNone(PAPER, TWINS, (2,))
        self.assertNone(PAPER, PATH)
        self.assertNone(PAPER, PAIR, (0, 1))

    def test_very_many_pairs(self):
        lots = lots_of(8)
        pairs = sorted((held, gone) for held in lots[::3] for gone in lots[::5]
                       if not set(held) & set(gone))
        self.assertGreater(len(pairs), 256)
        self.assertNone(tuple(pairs), FULL, (0,))

    def test_nothing_is_changed_and_the_answer_stays(self):
        for thing in plain_things() + [PAPER, list(PAPER), ([[0, 2], []], {1: [2]})]:
            ahead = copy.deepcopy(thing)
            told = is_once_paper(TWINS, (0, 2), thing)
            self.assertEqual(thing, ahead)
            self.assertIs(is_once_paper(TWINS, (0, 2), thing), told)


class OncePaper(Asking):
    def test_it_is_an_at_once_paper_and_shows_the_share(self):
        for web in small_webs() + list(GREAT) + [LONE, EMPTY]:
            for at, places in enumerate(places_of(web)):
                chances = chances_of(web, at)
                paper = once_paper(web, places)
                self.assertIs(is_once_paper(web, places, paper), True, (web, places))
                self.assertTrue(is_once(web, places, paper), (web, places))
                due = as_tuple(summed_share(web, chances, places))
                self.assertEqual(once_shows(web, chances, places, paper), due, (web, places))

    def test_plain_ones(self):
        self.assertEqual(once_paper(LONE, (0,)), ONE)
        self.assertEqual(once_paper(EMPTY, (3,)), ONE)
        self.assertEqual(once_paper(EMPTY, (0, 5)), ())
        self.assertEqual(once_paper(APART, (0, 1)), ())

    def test_kinds_and_the_same_answer(self):
        for web in GREAT:
            for places in places_of(web):
                paper = once_paper(web, places)
                self.assertIs(type(paper), tuple)
                for pair in paper:
                    self.assertEqual([type(pair)] + [type(lot) for lot in pair], [tuple] * 3)
                    self.assertEqual({type(number) for number in pair[0] + pair[1]} - {int}, set())
                self.assertEqual(once_paper(web, places), paper)

    def test_refusals(self):
        for web in (PATH, TWINS, FULL):
            wrong = no_places(web) + plainly_none()
            steps = ((NoWeb, 0, no_webs()), (NoPlaces, 1, wrong))
            self.assertInOrder(once_paper, (web, (0,)), *steps)
            for thing in (ONE, None, Touchy()):
                self.assertInOrder(is_once_paper, (web, (0,), thing), *steps)


class OnceShows(Asking):
    def test_ordinary(self):
        self.assertEqual(once_shows(TWINS, HALVES, (0, 2), PAPER), (3, 8))
        chances = ((1, 3), (1, 4), (2, 5))
        self.assertEqual(once_shows(TWINS, chances, (0, 2), PAPER), (1, 5))
        self.assertEqual(once_shows(PATH, chances, (0,), ONE), (1, 1))
        self.assertEqual(once_shows(EMPTY, (), (0, 1), ()), (0, 1))
        self.assertEqual(once_shows(LONE, (), (0,), ONE), (1, 1))

    def test_every_paper_shows_the_share(self):
        for at, (web, places, paper) in enumerate(asked()):
            chances = chances_of(web, at)
            due = share(web, chances, places)
            self.assertEqual(once_shows(web, chances, places, paper), due, (web, places))

    def test_nought_and_one(self):
        for chance, due in (((0, 1), (0, 1)), ((1, 1), (1, 1))):
            self.assertEqual(once_shows(TWINS, (chance,) * 3, (0, 2), PAPER), due)
            self.assertEqual(once_shows(TWINS, (chance,) * 3, (0,), ONE), (1, 1))

    def test_great_bottoms(self):
        chances = ((990, 991), (996, 997), (1, 983), (976, 977), (500, 971), (966, 967),
                   (1, 1000), (999, 1000))
        for web in GREAT:
            mine = chances[:len(web[1])]
            for places in places_of(web):
                paper = all_good_paper(web, places)
                told = once_shows(web, mine, places, paper)
                self.assertFraction(told)
                self.assertEqual(Fraction(*told), summed_share(web, mine, places))

    def test_refusals(self):
        wrong = [(), PAPER[:1], PAPER[::-1], list(PAPER), PAPER + PAPER[:1], ONE,
                 (((0, 2), ()), ((1, 2), ())), (((False, 2), ()), ((1, 2), (0,))),
                 (((0, 2), ()), ((1, 2), (0, 3))), (((0, 2), ()), ((1, 2), (0,), ()))]
        for thing in strange_things():
            wrong.extend([(thing,), (thing,) + PAPER, ((thing, ()), PAPER[1]),
                          (((0, 2), thing), PAPER[1]), (((0, 2), (thing,)), PAPER[1]),
                          (((0, thing), ()), PAPER[1])])
        self.assertInOrder(
            once_shows, (TWINS, HALVES, (0, 2), PAPER),
            (NoWeb, 0, no_webs()), (NoChances, 1, no_chances(TWINS)),
            (NoPlaces, 2, no_places(TWINS) + plainly_none()),
            (NoPaper, 3, wrong + plain_things() + strange_things()))

    def test_no_paper_where_no_lot_is_good_or_all_are(self):
        for thing in (None, [], {}, "", ONE, ((),), (((), ()), ((), ()))):
            self.assertRefused(NoPaper, once_shows, EMPTY, (), (0, 1), thing)
        for thing in (None, (), [], {}, "", ((),), ONE + ONE, [((), ())]):
            self.assertRefused(NoPaper, once_shows, LONE, (), (0,), thing)

    def test_a_refusal_changes_nothing(self):
        paper = [[[0, 2], []], ((1, 2), [0])]
        ahead = copy.deepcopy(paper)
        self.assertRefused(NoPaper, once_shows, TWINS, HALVES, (0, 2), paper)
        self.assertRefused(NoPaper, once_shows, TWINS, HALVES, (0, 2), tuple(paper))
        self.assertEqual(paper, ahead)
        self.assertEqual(once_shows(TWINS, HALVES, (0, 2), PAPER), (3, 8))


def way_in(web, tree, start, end):
    """The numbers of the tree's ties from the one place to the other, walked one by one."""
    if start == end:
        return []
    for number in tree:
        if start in web[1][number]:
            there = sum(web[1][number]) - start
            rest = tuple(other for other in tree if other != number)
            if end in reached(web, rest, there):
                return [number] + way_in(web, rest, there, end)
    raise AssertionError("the tree does not lead there")


def walked_trees_paper(web):
    many, ties = web
    every = tuple(range(many))
    found = []
    for tree in itertools.combinations(range(len(ties)), many - 1):
        if is_good(web, tree, every):
            gone = [number for number in rest_of(web, tree)
                    if any(number < other for other in way_in(web, tree, *ties[number]))]
            found.append((tree, tuple(gone)))
    return tuple(sorted(found))


class TreesPaper(Asking):
    def webs(self):
        return small_webs() + list(GREAT) + [LONE, EMPTY, PATH, TRIANGLE, TWINS]

    def test_ordinary(self):
        self.assertEqual(trees_paper(PATH), (((0, 1, 2), ()),))
        self.assertEqual(trees_paper(TRIANGLE), (((0, 1), ()), ((0, 2), (1,)), ((1, 2), (0,))))
        self.assertEqual(trees_paper((4, ((0, 1), (0, 2), (1, 2), (2, 3)))), (
            ((0, 1, 3), ()), ((0, 2, 3), (1,)), ((1, 2, 3), (0,))))

    def test_one_place(self):
        self.assertEqual(trees_paper(LONE), (((), ()),))

    def test_webs_in_pieces(self):
        for web in (EMPTY, APART, (2, ()), (3, ((0, 1),) * 8), (6, ((0, 1), (2, 3), (4, 5)))):
            self.assertEqual(trees_paper(web), ())

    def test_alike_ties(self):
        self.assertEqual(trees_paper(TWINS), (((0, 2), ()), ((1, 2), (0,))))
        self.assertEqual(trees_paper(ALIKE), tuple(((k,), tuple(range(k))) for k in range(8)))

    def test_by_the_way_in_the_tree(self):
        for web in self.webs():
            self.assertEqual(trees_paper(web), walked_trees_paper(web), web)

    def test_it_is_an_at_once_paper_for_all_places_and_shows_their_share(self):
        for at, web in enumerate(self.webs()):
            every = tuple(range(web[0]))
            chances = chances_of(web, at)
            paper = trees_paper(web)
            self.assertIs(is_once_paper(web, every, paper), True, web)
            due = as_tuple(summed_share(web, chances, every))
            self.assertEqual(once_shows(web, chances, every, paper), due, web)

    def test_kinds(self):
        for web in GREAT:
            paper = trees_paper(web)
            self.assertIs(type(paper), tuple)
            for pair in paper:
                self.assertEqual([type(pair)] + [type(lot) for lot in pair], [tuple] * 3)

    def test_no_web(self):
        for web in no_webs():
            self.assertRefused(NoWeb, trees_paper, web)


if __name__ == "__main__":
    unittest.main()
