import copy
import itertools
import unittest

from tests.samples import (
    ALIKE, APART, EMPTY, FULL, GREAT, LONE, PATH, TRIANGLE, TWINS, Asking, Touchy,
    as_tuple, chances_of, is_good, lots_of, nested, no_chances, no_numbers, no_places,
    no_webs, orders_of, places_of, plain_things, plainly_none, rest_of, small_webs, strange_things,
    summed_share,
)
from tiechances.cases import case_paper, case_shows, drawn, is_case_paper, without
from tiechances.errors import NoChances, NoPaper, NoPlaces, NoTie, NoWeb
from tiechances.shares import share
from tiechances.webs import is_web

YES = ("yes",)
NO = ("no",)
HALVES = ((1, 2),) * 3
# For PATH and the places (0, 2): the ties 0 and 1 are all that it hangs on.
PAPER = ("tie", 0, ("tie", 1, YES, NO), NO)


def webs_with_ties():
    return [web for web in small_webs() + list(GREAT) if web[1]]


def paper_by(web, places, order, held=(), gone=()):
    """A paper that takes the ties in this order, as far as there is need."""
    if is_good(web, held, places):
        return YES
    if not is_good(web, rest_of(web, gone), places):
        return NO
    number, *later = order
    return ("tie", number, paper_by(web, places, later, held + (number,), gone),
            paper_by(web, places, later, held, gone + (number,)))


def whole_paper(web, places, order, held=()):
    """A paper that takes all ties, whether there is need or not."""
    if not order:
        return YES if is_good(web, held, places) else NO
    number, *later = order
    return ("tie", number, whole_paper(web, places, later, held + (number,)),
            whole_paper(web, places, later, held))


def asked():
    """Webs with places, and papers of them by several orders of the ties."""
    found = []
    for web in small_webs()[::5] + [PATH, TRIANGLE, TWINS, LONE, EMPTY] + list(GREAT):
        for places in places_of(web):
            for order in orders_of(web):
                found.append((web, places, paper_by(web, places, order)))
    return found


def spots(paper):
    """The ways to all papers within a paper: 2 to the one, 3 to the other."""
    found = [()]
    if paper[0] == "tie":
        for at in (2, 3):
            found.extend((at,) + way for way in spots(paper[at]))
    return found


def at_spot(paper, way):
    for at in way:
        paper = paper[at]
    return paper


def put(paper, way, thing):
    """The paper with another thing at the end of the way."""
    if not way:
        return thing
    at = way[0]
    return paper[:at] + (put(paper[at], way[1:], thing),) + paper[at + 1:]


class Without(Asking):
    def test_ordinary(self):
        self.assertEqual(without(PATH, 0), (4, ((1, 2), (2, 3))))
        self.assertEqual(without(PATH, 1), (4, ((0, 1), (2, 3))))
        self.assertEqual(without(PATH, 2), (4, ((0, 1), (1, 2))))
        self.assertEqual(without((2, ((0, 1),)), 0), (2, ()))

    def test_alike_ties(self):
        self.assertEqual(without(TWINS, 0), (3, ((0, 1), (1, 2))))
        self.assertEqual(without(TWINS, 1), (3, ((0, 1), (1, 2))))
        self.assertEqual(without(ALIKE, 7), (2, ((0, 1),) * 7))

    def test_each_tie(self):
        for web in webs_with_ties():
            for number in range(len(web[1])):
                ties = list(web[1])
                del ties[number]
                self.assertEqual(without(web, number), (web[0], tuple(ties)))
                self.assertTrue(is_web(without(web, number)))

    def test_refusals(self):
        for web in (PATH, TWINS, FULL, LONE, EMPTY):
            for number in no_numbers(web):
                self.assertRefused(NoTie, without, web, number)
        for web in no_webs():
            for number in (0, None, -1):
                self.assertRefused(NoWeb, without, web, number)


class Drawn(Asking):
    def test_ordinary(self):
        self.assertEqual(drawn(PATH, 0), ((3, ((0, 1), (1, 2))), (0, 0, 1, 2), (1, 2)))
        self.assertEqual(drawn(PATH, 1), ((3, ((0, 1), (1, 2))), (0, 1, 1, 2), (0, 2)))
        self.assertEqual(drawn(PATH, 2), ((3, ((0, 1), (1, 2))), (0, 1, 2, 2), (0, 1)))
        self.assertEqual(drawn((2, ((0, 1),)), 0), ((1, ()), (0, 0), ()))

    def test_alike_ties_are_left_out(self):
        self.assertEqual(drawn(TWINS, 0), ((2, ((0, 1),)), (0, 0, 1), (2,)))
        self.assertEqual(drawn(TWINS, 1), ((2, ((0, 1),)), (0, 0, 1), (2,)))
        self.assertEqual(drawn(TWINS, 2), ((2, ((0, 1), (0, 1))), (0, 1, 1), (0, 1)))
        for number in range(8):
            self.assertEqual(drawn(ALIKE, number), ((1, ()), (0, 0), ()))

    def test_ties_that_are_turned_about_and_put_in_order(self):
        web = (5, ((0, 4), (1, 4), (2, 3), (2, 4), (3, 4)))
        self.assertEqual(drawn(web, 0), (
            (4, ((0, 1), (0, 2), (0, 3), (2, 3))), (0, 1, 2, 3, 0), (1, 3, 4, 2)))
        web = (4, ((0, 1), (0, 3), (1, 2), (2, 3)))
        self.assertEqual(drawn(web, 1), (
            (3, ((0, 1), (0, 2), (1, 2))), (0, 1, 2, 0), (0, 3, 2)))

    def test_alike_ones_stand_in_the_order_of_their_old_numbers(self):
        self.assertEqual(drawn(TRIANGLE, 0), ((2, ((0, 1), (0, 1))), (0, 0, 1), (1, 2)))
        web = (4, ((0, 2), (0, 3), (1, 2), (1, 3), (1, 3), (2, 3)))
        self.assertEqual(drawn(web, 5), (
            (3, ((0, 2), (0, 2), (1, 2), (1, 2), (1, 2))), (0, 1, 2, 2), (0, 1, 2, 3, 4)))
        web = (4, ((0, 1), (0, 2), (0, 3), (0, 3), (1, 2)))
        self.assertEqual(drawn(web, 4), (
            (3, ((0, 1), (0, 1), (0, 2), (0, 2))), (0, 1, 1, 2), (0, 1, 2, 3)))

    def test_places_without_ties_have_names(self):
        web = (6, ((1, 3),))
        self.assertEqual(drawn(web, 0), ((5, ()), (0, 1, 2, 1, 3, 4), ()))

    def test_each_tie_by_what_the_document_says(self):
        for web in webs_with_ties():
            many, ties = web
            for number, (stays, goes) in enumerate(ties):
                left = [place for place in range(many) if place != goes]
                names = tuple(left.index(stays if place == goes else place)
                              for place in range(many))
                pairs = [tuple(sorted((names[a], names[b]))) for a, b in ties]
                old = sorted((k for k in range(len(ties)) if ties[k] != ties[number]),
                             key=lambda k: (pairs[k], k))
                due = ((many - 1, tuple(pairs[k] for k in old)), names, tuple(old))
                self.assertEqual(drawn(web, number), due, (web, number))
                self.assertTrue(is_web(due[0]))

    def test_what_hangs_together_stays(self):
        for web in webs_with_ties():
            for number in range(len(web[1])):
                less, names, old = drawn(web, number)
                for lot in lots_of(len(less[1])):
                    before = tuple(sorted([number] + [old[k] for k in lot]))
                    for a, b in itertools.combinations(range(web[0]), 2):
                        self.assertEqual(is_good(web, before, (a, b)),
                                         is_good(less, lot, (names[a], names[b])))

    def test_kinds(self):
        told = drawn(FULL, 3)
        self.assertEqual([type(part) for part in told], [tuple] * 3)
        self.assertEqual(type(told), tuple)
        self.assertEqual({type(number) for number in told[1] + told[2]}, {int})

    def test_refusals(self):
        for web in (PATH, TWINS, FULL, LONE, EMPTY):
            for number in no_numbers(web):
                self.assertRefused(NoTie, drawn, web, number)
        for web in no_webs():
            for number in (0, None, -1):
                self.assertRefused(NoWeb, drawn, web, number)


class RightPapers(Asking):
    def test_ordinary(self):
        self.assertIs(is_case_paper(PATH, (0, 2), PAPER), True)
        self.assertIs(is_case_paper(PATH, (0, 2), ("tie", 1, ("tie", 0, YES, NO), NO)), True)
        self.assertIs(is_case_paper(PATH, (0,), YES), True)
        self.assertIs(is_case_paper(EMPTY, (0, 1), NO), True)
        self.assertIs(is_case_paper(TWINS, (0, 1), ("tie", 1, YES, ("tie", 0, YES, NO))), True)

    def test_by_several_orders_of_the_ties(self):
        for web, places, paper in asked():
            self.assertIs(is_case_paper(web, places, paper), True, (web, places, paper))

    def test_ties_taken_without_need(self):
        self.assertIs(is_case_paper(PATH, (0,), ("tie", 2, YES, YES)), True)
        self.assertIs(is_case_paper(APART, (0, 1), ("tie", 3, NO, ("tie", 0, NO, NO))), True)
        for web in [PATH, TRIANGLE, TWINS] + list(GREAT):
            for places in places_of(web):
                for order in orders_of(web):
                    paper = whole_paper(web, places, order)
                    self.assertIs(is_case_paper(web, places, paper), True, (web, places))

    def test_another_order_in_each_branch(self):
        paper = ("tie", 1, ("tie", 0, YES, ("tie", 2, NO, NO)),
                 ("tie", 2, ("tie", 0, NO, NO), NO))
        self.assertIs(is_case_paper(PATH, (0, 2), paper), True)

    def test_yes_and_no_alone(self):
        for web in small_webs() + list(GREAT):
            every = tuple(range(len(web[1])))
            for places in places_of(web):
                self.assertIs(is_case_paper(web, places, YES), len(places) == 1)
                self.assertIs(is_case_paper(web, places, NO), not is_good(web, every, places))


class WrongPapers(Asking):
    def assertNone(self, thing, web=PATH, places=(0, 2)):
        self.assertIs(is_case_paper(web, places, thing), False, thing)

    def test_an_end_that_is_not_right(self):
        for web, places, paper in asked():
            for way in spots(paper):
                if at_spot(paper, way) == YES:
                    self.assertNone(put(paper, way, NO), web, places)
                elif at_spot(paper, way) == NO:
                    self.assertNone(put(paper, way, YES), web, places)

    def test_an_end_too_early(self):
        for web, places, paper in asked():
            for way in spots(paper):
                if at_spot(paper, way)[0] == "tie":
                    self.assertNone(put(paper, way, YES), web, places)
                    self.assertNone(put(paper, way, NO), web, places)

    def test_the_one_and_the_other_changed(self):
        self.assertNone(("tie", 0, NO, ("tie", 1, YES, NO)))
        self.assertNone(("tie", 0, ("tie", 1, NO, YES), NO))

    def test_a_tie_taken_twice(self):
        self.assertNone(("tie", 0, ("tie", 0, ("tie", 1, YES, NO), NO), NO))
        self.assertNone(("tie", 0, ("tie", 1, YES, NO), ("tie", 0, NO, NO)))
        self.assertNone(("tie", 0, ("tie", 1, ("tie", 0, YES, YES), NO), NO))
        self.assertNone(("tie", 0, ("tie", 1, ("tie", 1, YES, YES), NO), NO))
        self.assertNone(("tie", 0, ("tie", 1, YES, ("tie", 1, NO, NO)), NO))
        self.assertNone(("tie", 0, ("tie", 1, YES, ("tie", 0, NO, NO)), NO))
        self.assertNone(("tie", 2, ("tie", 2, YES, YES), YES), PATH, (0,))
        self.assertNone(("tie", 2, YES, ("tie", 2, YES, YES)), PATH, (0,))

    def test_the_one_taken_again_in_the_other_is_right(self):
        # Only what is taken on the way down counts.
        thing = ("tie", 2, ("tie", 0, YES, YES), ("tie", 0, YES, YES))
        self.assertIs(is_case_paper(PATH, (0,), thing), True)

    def test_a_number_that_is_none(self):
        for number in no_numbers(PATH):
            self.assertNone(("tie", number, YES, YES), PATH, (0,))
            self.assertNone(("tie", 0, ("tie", number, YES, NO), NO))
        self.assertNone(("tie", 0, YES, YES), LONE, (0,))
        self.assertNone(("tie", 0, NO, NO), EMPTY, (0, 1))

    def test_a_truth_for_a_number(self):
        self.assertNone(("tie", False, ("tie", 1, YES, NO), NO))
        self.assertNone(("tie", 0, ("tie", True, YES, NO), NO))
        self.assertNone(("tie", True, YES, YES), PATH, (0,))

    def test_one_part_more_or_fewer(self):
        for thing in (
                ("yes", "yes"), ("yes", None), ("yes", ()), ("yes", 0, YES, YES), (),
                ("tie",), ("tie", 0), ("tie", 0, YES), ("tie", 0, YES, YES, YES),
                ("tie", 0, YES, YES, None), (0, YES, YES), ("no", 0, YES, YES)):
            self.assertNone(thing, PATH, (0,))
            self.assertNone(("tie", 0, thing, YES), PATH, (0,))
            self.assertNone(("tie", 0, YES, thing), PATH, (0,))
        for thing in (("no", "no"), ("no", None), ("no", 0, NO, NO), ("tie", 0, NO)):
            self.assertNone(thing, EMPTY, (0, 1))
            self.assertNone(("tie", 0, ("tie", 1, YES, thing), NO))

    def test_other_words(self):
        for word in ("", "Yes", "YES", "yes ", "y", "ye", "true", "tie", None, True, 1, ("yes",),
                     ["yes"], {"yes": "yes"}):
            self.assertNone((word,), PATH, (0,))
            self.assertNone(("tie", 0, (word,), YES), PATH, (0,))
        for word in ("", "No", "NO", "n", "not", "tie", None, False, 0, ("no",)):
            self.assertNone((word,), EMPTY, (0, 1))
        for word in ("", "Tie", "ties", "yes", "no", None, 0, True, ("tie",), ["tie"]):
            self.assertNone((word, 0, YES, YES), PATH, (0,))

    def test_lists_for_tuples(self):
        self.assertNone(["yes"], PATH, (0,))
        self.assertNone(["no"], EMPTY, (0, 1))
        self.assertNone(list(PAPER))
        self.assertNone(["tie", 0, YES, YES], PATH, (0,))
        for way in spots(PAPER):
            self.assertNone(put(PAPER, way, list(at_spot(PAPER, way))))

    def test_texts_for_tuples(self):
        self.assertNone("yes", PATH, (0,))
        self.assertNone("no", EMPTY, (0, 1))
        for way in spots(PAPER):
            self.assertNone(put(PAPER, way, at_spot(PAPER, way)[0]))

    def test_anything(self):
        for web, places in ((PATH, (0, 2)), (PATH, (0,)), (EMPTY, (0, 1)), (LONE, (0,))):
            for thing in plain_things():
                self.assertNone(thing, web, places)

    def test_anything_at_each_place_of_a_paper(self):
        for thing in plain_things():
            self.assertNone((thing,), PATH, (0,))
            self.assertNone((thing,), EMPTY, (0, 1))
            self.assertNone((thing, 0, YES, YES), PATH, (0,))
            self.assertNone(("tie", 0, thing, YES), PATH, (0,))
            self.assertNone(("tie", 0, YES, thing), PATH, (0,))
            whole = isinstance(thing, int) and not isinstance(thing, bool)
            self.assertIs(is_case_paper(PATH, (0,), ("tie", thing, YES, YES)),
                          whole and 0 <= thing < 3, thing)

    def test_deep_things(self):
        for wrap in (lambda thing: ("tie", 0, thing, YES), lambda thing: ("tie", 0, YES, thing),
                     lambda thing: ("yes", thing), lambda thing: (thing, "yes"),
                     lambda thing: ["tie", 0, thing, thing], lambda thing: {"tie": thing}):
            for depth in (2, 9, 24, 30):
                self.assertNone(nested(wrap, depth), PATH, (0,))
        thing = YES
        for number in list(range(8)) * 3:
            thing = ("tie", number, thing, YES)
        self.assertNone(thing, FULL, (0,))

    def test_a_paper_of_other_places_or_of_another_web(self):
        self.assertNone(PAPER, PATH, (0, 1, 2, 3))
        self.assertNone(PAPER, PATH, (0, 1))
        self.assertNone(PAPER, PATH, (2,))
        self.assertNone(PAPER, TRIANGLE, (0, 2))
        self.assertNone(("tie", 2, NO, NO), (2, ((0, 1),)), (0, 1))

    def test_nothing_is_changed_and_the_answer_stays(self):
        for thing in plain_things() + [PAPER, list(PAPER), ("tie", 0, [YES], {1: NO})]:
            ahead = copy.deepcopy(thing)
            told = is_case_paper(PATH, (0, 2), thing)
            self.assertEqual(thing, ahead)
            self.assertIs(is_case_paper(PATH, (0, 2), thing), told)


class CasePaper(Asking):
    def test_it_is_a_case_paper_and_shows_the_share(self):
        for web in small_webs() + list(GREAT):
            for at, places in enumerate(places_of(web)):
                chances = chances_of(web, at)
                paper = case_paper(web, places)
                self.assertIs(is_case_paper(web, places, paper), True, (web, places))
                due = as_tuple(summed_share(web, chances, places))
                self.assertEqual(case_shows(web, chances, places, paper), due, (web, places))

    def test_plain_ones(self):
        self.assertEqual(case_paper(LONE, (0,)), YES)
        self.assertEqual(case_paper(EMPTY, (0, 5)), NO)
        # Where there are ties, a paper may take some without need: only its ends are plain.
        for web, places, end in ((FULL, (3,), YES), (APART, (0, 1), NO)):
            paper = case_paper(web, places)
            ends = [at_spot(paper, way) for way in spots(paper)]
            self.assertEqual({one for one in ends if one[0] != "tie"}, {end})

    def test_the_answer_stays(self):
        for web in GREAT:
            for places in places_of(web):
                self.assertEqual(case_paper(web, places), case_paper(web, places))
        self.assertIs(type(case_paper(FULL, (0, 1))), tuple)

    def test_refusals(self):
        for ask in (case_paper, lambda web, places: is_case_paper(web, places, YES)):
            for web in (PATH, TWINS, FULL):
                for places in no_places(web) + plainly_none():
                    self.assertRefused(NoPlaces, ask, web, places)
            for web in no_webs():
                for places in ((0,), None, ()):
                    self.assertRefused(NoWeb, ask, web, places)


class CaseShows(Asking):
    def test_ordinary(self):
        self.assertEqual(case_shows(PATH, HALVES, (0, 2), PAPER), (1, 4))
        chances = ((1, 3), (2, 5), (0, 1))
        self.assertEqual(case_shows(PATH, chances, (0, 2), PAPER), (2, 15))
        self.assertEqual(case_shows(PATH, chances, (0,), YES), (1, 1))
        self.assertEqual(case_shows(EMPTY, (), (0, 1), NO), (0, 1))
        paper = ("tie", 1, YES, ("tie", 0, YES, NO))
        self.assertEqual(case_shows(TWINS, ((1, 3), (1, 4), (1, 2)), (0, 1), paper), (1, 2))

    def test_every_paper_shows_the_share(self):
        for at, (web, places, paper) in enumerate(asked()):
            chances = chances_of(web, at)
            due = share(web, chances, places)
            self.assertEqual(case_shows(web, chances, places, paper), due, (web, places))

    def test_nought_and_one(self):
        for chance, due in (((0, 1), (0, 1)), ((1, 1), (1, 1))):
            self.assertEqual(case_shows(PATH, (chance,) * 3, (0, 2), PAPER), due)
            self.assertEqual(case_shows(PATH, (chance,) * 3, (0,), ("tie", 1, YES, YES)), (1, 1))

    def test_great_bottoms_and_papers_of_all_ties(self):
        chances = ((990, 991), (996, 997), (1, 983), (976, 977), (500, 971), (966, 967),
                   (1, 1000), (999, 1000))
        for web in GREAT:
            for places in places_of(web):
                mine = chances[:len(web[1])]
                paper = whole_paper(web, places, list(range(len(web[1]))))
                due = as_tuple(summed_share(web, mine, places))
                told = case_shows(web, mine, places, paper)
                self.assertEqual(told, due, (web, places))
                self.assertEqual([type(number) for number in told], [int, int])
                self.assertIs(type(told), tuple)

    def test_no_paper(self):
        wrong = [YES, NO, None, list(PAPER), ("tie", 0, YES, NO), ("tie", False) + PAPER[2:],
                 ("tie", 0, ("tie", 0, YES, NO), NO), ("tie", 3, PAPER, PAPER), PAPER + (NO,),
                 PAPER[:3], ("tie", 0, NO, ("tie", 1, YES, NO))]
        for thing in wrong + plain_things() + strange_things():
            self.assertRefused(NoPaper, case_shows, PATH, HALVES, (0, 2), thing)

    def test_no_paper_of_whatever_kind_at_each_place(self):
        for thing in strange_things() + [Touchy()]:
            for paper in ((thing,), ("tie", thing, YES, YES), (thing, 0, YES, YES),
                          ("tie", 0, thing, YES), ("tie", 0, YES, thing)):
                self.assertRefused(NoPaper, case_shows, PATH, HALVES, (0,), paper)

    def test_a_paper_of_other_places(self):
        self.assertRefused(NoPaper, case_shows, PATH, HALVES, (0, 3), PAPER)
        self.assertRefused(NoPaper, case_shows, TRIANGLE, HALVES, (0, 2), PAPER)

    def test_no_places(self):
        for places in no_places(PATH) + plainly_none():
            for paper in (PAPER, YES, None):
                self.assertRefused(NoPlaces, case_shows, PATH, HALVES, places, paper)

    def test_no_chances(self):
        for wrong in no_chances(PATH):
            for places, paper in (((0, 2), PAPER), (None, PAPER), ((0, 2), None), ((), None)):
                self.assertRefused(NoChances, case_shows, PATH, wrong, places, paper)

    def test_no_web(self):
        for web in no_webs():
            for handed in (((), (0,), YES), (None, (0,), YES), ((), None, None), (None,) * 3):
                self.assertRefused(NoWeb, case_shows, web, *handed)

    def test_a_refusal_changes_nothing(self):
        paper = ["tie", 0, [YES], {"no": [NO]}]
        ahead = copy.deepcopy(paper)
        self.assertRefused(NoPaper, case_shows, PATH, HALVES, (0, 2), paper)
        self.assertRefused(NoPaper, case_shows, PATH, HALVES, (0, 2), tuple(paper))
        self.assertEqual(paper, ahead)
        self.assertEqual(case_shows(PATH, HALVES, (0, 2), PAPER), (1, 4))


class OneNumber(Asking):
    def test_the_share_is_one_number_by_the_webs_of_a_tie(self):
        """The tie holds or it does not: both webs with a tie fewer come to the share."""
        for web in [PATH, TRIANGLE, TWINS] + list(GREAT):
            chances = chances_of(web, 3)
            for number, places in itertools.product(range(len(web[1])), places_of(web)):
                less, names, old = drawn(web, number)
                there = tuple(sorted({names[place] for place in places}))
                holds = share(less, tuple(chances[k] for k in old), there)
                rest = chances[:number] + chances[number + 1:]
                lacks = share(without(web, number), rest, places)
                top, bottom = chances[number]
                told = share(web, chances, places)
                self.assertEqual(
                    told[0] * bottom * holds[1] * lacks[1],
                    told[1] * (top * holds[0] * lacks[1] + (bottom - top) * lacks[0] * holds[1]))


if __name__ == "__main__":
    unittest.main()
