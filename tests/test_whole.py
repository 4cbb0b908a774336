"""Points 2, 3 and 4, and the interface, over the whole program."""

import copy
import inspect
import itertools
import unittest

from tests.samples import (
    APART, EMPTY, FULL, GREAT, HALVES, LONE, PATH, TRIANGLE, TWINS, Asking, as_tuple, chances_of,
    deep_things, in_dict, in_list, in_pair, in_tuple, nested, places_of, small_webs,
    strange_things, summed_share,
)
from tiechances import (
    betters, bounds, cases, chances, desk, errors, joins, lots, onces, polys, shares, texts, webs,
)
from tiechances.errors import (
    NoChance, NoChances, NoLine, NoLot, NoPaper, NoPlace, NoPlaces, NoText, NoTie, NoWeb,
)

PLACES = (0, 2)
CHANCES = ((1, 2), (1, 3), (1, 5))
CASE = ("tie", 0, ("tie", 1, ("yes",), ("no",)), ("no",))
ONCE = (((0, 1), ()),)

# Each function with a right call, and what is refused at each place, in the order in which
# it is looked at; "no" where of anything it is told that it is none.
CALLS = (
    (webs.is_web, (PATH,), ((0, "no"),)),
    (webs.pieces_by, (PATH, (0, 1)), ((0, NoWeb), (1, NoLot))),
    (webs.hangs, (PATH, (0, 1), PLACES), ((0, NoWeb), (1, NoLot), (2, NoPlaces))),
    (chances.is_chance, ((1, 2),), ((0, "no"),)),
    (chances.are_chances, (PATH, CHANCES), ((0, NoWeb), (1, "no"))),
    (lots.good_lots, (PATH, PLACES), ((0, NoWeb), (1, NoPlaces))),
    (lots.least_good, (PATH, PLACES), ((0, NoWeb), (1, NoPlaces))),
    (lots.cuts, (PATH, PLACES), ((0, NoWeb), (1, NoPlaces))),
    (lots.least_cuts, (PATH, PLACES), ((0, NoWeb), (1, NoPlaces))),
    (shares.lot_chance, (PATH, CHANCES, (0,)), ((0, NoWeb), (1, NoChances), (2, NoLot))),
    (shares.share, (PATH, CHANCES, PLACES), ((0, NoWeb), (1, NoChances), (2, NoPlaces))),
    (shares.pieces_shares, (PATH, CHANCES), ((0, NoWeb), (1, NoChances))),
    (cases.without, (PATH, 1), ((0, NoWeb), (1, NoTie))),
    (cases.drawn, (PATH, 1), ((0, NoWeb), (1, NoTie))),
    (cases.is_case_paper, (PATH, PLACES, CASE), ((0, NoWeb), (1, NoPlaces), (2, "no"))),
    (cases.case_paper, (PATH, PLACES), ((0, NoWeb), (1, NoPlaces))),
    (cases.case_shows, (PATH, CHANCES, PLACES, CASE),
     ((0, NoWeb), (1, NoChances), (2, NoPlaces), (3, NoPaper))),
    (onces.is_once_paper, (PATH, PLACES, ONCE), ((0, NoWeb), (1, NoPlaces), (2, "no"))),
    (onces.once_paper, (PATH, PLACES), ((0, NoWeb), (1, NoPlaces))),
    (onces.once_shows, (PATH, CHANCES, PLACES, ONCE),
     ((0, NoWeb), (1, NoChances), (2, NoPlaces), (3, NoPaper))),
    (onces.trees_paper, (PATH,), ((0, NoWeb),)),
    (bounds.is_lower, (PATH, PLACES, ((0, 1),)), ((0, NoWeb), (1, NoPlaces), (2, "no"))),
    (bounds.is_upper, (PATH, PLACES, ((0,), (1,))), ((0, NoWeb), (1, NoPlaces), (2, "no"))),
    (bounds.lower_shows, (PATH, CHANCES, PLACES, ((0, 1),)),
     ((0, NoWeb), (1, NoChances), (2, NoPlaces), (3, NoPaper))),
    (bounds.upper_shows, (PATH, CHANCES, PLACES, ((0,), (1,))),
     ((0, NoWeb), (1, NoChances), (2, NoPlaces), (3, NoPaper))),
    (bounds.lower_paper, (PATH, CHANCES, PLACES), ((0, NoWeb), (1, NoChances), (2, NoPlaces))),
    (bounds.upper_paper, (PATH, CHANCES, PLACES), ((0, NoWeb), (1, NoChances), (2, NoPlaces))),
    (bounds.bounds, (PATH, CHANCES, PLACES), ((0, NoWeb), (1, NoChances), (2, NoPlaces))),
    (betters.worths, (PATH, CHANCES, PLACES), ((0, NoWeb), (1, NoChances), (2, NoPlaces))),
    (betters.best_tie, (PATH, CHANCES, PLACES), ((0, NoWeb), (1, NoChances), (2, NoPlaces))),
    (betters.gain, (PATH, CHANCES, PLACES, 1, (1, 2)),
     ((0, NoWeb), (1, NoChances), (2, NoPlaces), (3, NoTie), (4, NoChance))),
    (betters.best_raise, (PATH, CHANCES, PLACES, (1, 2)),
     ((0, NoWeb), (1, NoChances), (2, NoPlaces), (3, NoChance))),
    (polys.counts, (PATH, PLACES), ((0, NoWeb), (1, NoPlaces))),
    (polys.are_alike, (PATH, PLACES, TWINS, PLACES),
     ((0, NoWeb), (2, NoWeb), (1, NoPlaces), (3, NoPlaces))),
    (polys.powers, (PATH, PLACES), ((0, NoWeb), (1, NoPlaces))),
    (polys.share_at, (PATH, PLACES, (1, 2)), ((0, NoWeb), (1, NoPlaces), (2, NoChance))),
    (polys.greater_at, (PATH, PLACES, TWINS, PLACES, (1, 2)),
     ((0, NoWeb), (2, NoWeb), (1, NoPlaces), (3, NoPlaces), (4, NoChance))),
    (joins.beside, (LONE, PATH), ((0, NoWeb), (1, NoWeb))),
    (joins.hung, (PATH, 1, TWINS, 2), ((0, NoWeb), (2, NoWeb), (1, NoPlace), (3, NoPlace))),
    (joins.row_made, (PATH, CHANCES, 1), ((0, NoWeb), (1, NoChances), (2, NoPlace))),
    (joins.pair_made, (TWINS, CHANCES, 0), ((0, NoWeb), (1, NoChances), (2, NoTie))),
    (texts.web_text, (PATH, CHANCES), ((0, NoWeb), (1, NoChances))),
    (texts.read_web, ("2: 0-1=1/2",), ((0, NoText),)),
    (desk.Desk().say, ("web",), ((0, NoLine),)),
)

# Told are lists by these.
LISTS = (
    (webs.pieces_by, (PATH, (0, 1))), (lots.good_lots, (FULL, PLACES)),
    (lots.least_good, (FULL, PLACES)), (lots.cuts, (FULL, PLACES)),
    (lots.least_cuts, (FULL, PLACES)), (shares.pieces_shares, (PATH, CHANCES)),
    (betters.worths, (PATH, CHANCES, PLACES)), (polys.counts, (PATH, PLACES)),
    (polys.powers, (PATH, PLACES)),
)

NAMES = {
    webs: "is_web(thing) pieces_by(web,lot) hangs(web,lot,places)",
    chances: "is_chance(thing) are_chances(web,thing)",
    lots: "good_lots(web,places) least_good(web,places) cuts(web,places) least_cuts(web,places)",
    shares: "lot_chance(web,chances,lot) share(web,chances,places) pieces_shares(web,chances)",
    cases: "without(web,number) drawn(web,number) is_case_paper(web,places,thing)"
           " case_paper(web,places) case_shows(web,chances,places,paper)",
    onces: "is_once_paper(web,places,thing) once_paper(web,places)"
           " once_shows(web,chances,places,paper) trees_paper(web)",
    bounds: "is_lower(web,places,thing) is_upper(web,places,thing)"
            " lower_shows(web,chances,places,paper) upper_shows(web,chances,places,paper)"
            " lower_paper(web,chances,places) upper_paper(web,chances,places)"
            " bounds(web,chances,places)",
    betters: "worths(web,chances,places) best_tie(web,chances,places)"
             " gain(web,chances,places,number,chance) best_raise(web,chances,places,chance)",
    polys: "counts(web,places) are_alike(web,places,other,more) powers(web,places)"
           " share_at(web,places,chance) greater_at(web,places,other,more,chance)",
    joins: "beside(one,other) hung(one,place,other,there) row_made(web,chances,place)"
           " pair_made(web,chances,number)",
    texts: "web_text(web,chances) read_web(text)",
}


def deep():
    """Things up to twenty-four deep that are right nowhere, and some deeper."""
    found = [thing for thing in deep_things() if thing not in ((1,), ((1,),), (1, 1))]
    for wraps in itertools.product((in_list, in_tuple, in_pair, in_dict), repeat=2):
        thing = nested(wraps[0], 12)
        for _ in range(12):
            thing = wraps[1](thing)
        found.append(thing)
    return found + [nested(wrap, depth) for wrap in (in_list, in_tuple, in_pair, in_dict)
                    for depth in (23, 25, 30)]


def within(thing, other):
    """The thing with another one in the place of each part, as deep as it goes."""
    found = [other]
    if isinstance(thing, tuple):
        for at, part in enumerate(thing):
            found.extend(thing[:at] + (new,) + thing[at + 1:] for new in within(part, other))
    return found


class Interface(unittest.TestCase):
    def test_names_and_arguments(self):
        for module, written in NAMES.items():
            for one in written.split():
                name, _, arguments = one.rstrip(")").partition("(")
                parameters = inspect.signature(getattr(module, name)).parameters
                self.assertEqual(",".join(parameters), arguments, one)

    def test_every_function_of_the_interface_is_called_here(self):
        called = {ask.__name__ for ask, _, _ in CALLS}
        named = {one.partition("(")[0] for written in NAMES.values() for one in written.split()}
        self.assertEqual(called, named | {"say"})

    def test_the_desk(self):
        self.assertEqual(list(inspect.signature(desk.Desk).parameters), [])
        self.assertEqual(list(inspect.signature(desk.Desk().say).parameters), ["line"])


class OfAnything(Asking):
    def assertNone(self, ask, handed, due):
        if due == "no":
            self.assertIs(ask(*handed), False, (ask, handed))
        else:
            self.assertRefused(due, ask, *handed)

    def test_the_right_calls(self):
        for ask, right, _ in CALLS:
            ask(*right)

    def test_deep_things_at_each_place(self):
        for ask, right, steps in CALLS:
            for at, due in steps:
                for thing in deep():
                    handed = list(right)
                    handed[at] = thing
                    self.assertNone(ask, handed, due)

    def test_deep_things_within_what_is_right(self):
        for ask, right, steps in CALLS:
            for at, due in steps:
                for thing in (nested(in_tuple, 20), nested(in_list, 20), nested(in_dict, 20),
                              None, True, False, "", "ties", [], {}):
                    for wrong in within(right[at], thing):
                        handed = list(right)
                        handed[at] = wrong
                        self.assertNone(ask, handed, due)

    def test_things_of_whatever_kind_where_a_refusal_is_told(self):
        for ask, right, steps in CALLS:
            for at, due in steps:
                if due == "no":
                    continue
                for thing in strange_things():
                    for wrong in within(right[at], thing):
                        handed = list(right)
                        handed[at] = wrong
                        self.assertRefused(due, ask, *handed)

    def test_what_is_looked_at_first(self):
        for ask, right, steps in CALLS:
            for step, (at, due) in enumerate(steps):
                if due == "no":
                    continue
                handed = list(right)
                for later, _ in steps[step:]:
                    handed[later] = None
                self.assertRefused(due, ask, *handed)


class NothingChanges(Asking):
    def test_nothing_that_is_handed_in_is_changed(self):
        for ask, right, steps in CALLS:
            for at, _ in steps:
                for thing in ([[1, [2]], {"a": [1]}], ([1], {0: []}), {"tie": [[0, 1]]}):
                    handed = list(right)
                    handed[at] = thing
                    ahead = copy.deepcopy(handed)
                    try:
                        ask(*handed)
                    except errors.ChanceError:
                        pass
                    self.assertEqual(handed, ahead)

    def test_the_same_question_has_the_same_answer(self):
        first = [ask(*right) for ask, right, _ in CALLS]
        again = [ask(*right) for ask, right, _ in CALLS[::-1]]
        self.assertEqual(first, again[::-1])

    def test_told_lists_changed_by_the_asker_change_no_later_answer(self):
        for ask, right in LISTS:
            told = ask(*right)
            self.assertIs(type(told), list)
            kept = copy.deepcopy(told)
            self.assertIsNot(ask(*right), told)
            told[0] = "other"
            told.append("more")
            self.assertEqual(ask(*right), kept, ask)
            told.clear()
            self.assertEqual(ask(*right), kept, ask)

    def test_other_answers_have_no_lists_in_them(self):
        def no_lists(thing):
            if isinstance(thing, tuple):
                return all(no_lists(part) for part in thing)
            return thing is None or isinstance(thing, (int, str))

        for ask, right, _ in CALLS:
            told = ask(*right)
            if isinstance(told, list):
                self.assertIn(ask.__name__, [one.__name__ for one, _ in LISTS])
                told = tuple(told)
            self.assertTrue(no_lists(told), (ask, told))


class OneNumber(Asking):
    def webs(self):
        return small_webs()[::2] + [PATH, TRIANGLE, TWINS, LONE, EMPTY, APART] + list(GREAT)

    def test_by_all_lots_by_cases_and_at_once(self):
        for at, web in enumerate(self.webs()):
            mine = chances_of(web, at)
            for places in places_of(web):
                due = as_tuple(summed_share(web, mine, places))
                self.assertEqual(shares.share(web, mine, places), due)
                paper = cases.case_paper(web, places)
                self.assertEqual(cases.case_shows(web, mine, places, paper), due)
                paper = onces.once_paper(web, places)
                self.assertEqual(onces.once_shows(web, mine, places, paper), due)
            paper = onces.trees_paper(web)
            self.assertEqual(onces.once_shows(web, mine, places, paper), due, web)
            self.assertEqual(shares.pieces_shares(web, mine)[0], due, web)

    def test_by_the_polynomial_too(self):
        points = ((1, 2), (0, 1), (1, 1), (2, 3), (997, 1000))
        for at, web in enumerate(self.webs()):
            chance = points[at % len(points)]
            mine = (chance,) * len(web[1])
            for places in places_of(web):
                due = as_tuple(summed_share(web, mine, places))
                self.assertEqual(polys.share_at(web, places, chance), due)
                self.assertEqual(shares.share(web, mine, places), due)
                paper = cases.case_paper(web, places)
                self.assertEqual(cases.case_shows(web, mine, places, paper), due)
                paper = onces.once_paper(web, places)
                self.assertEqual(onces.once_shows(web, mine, places, paper), due)

    def test_a_tie_bettered_makes_no_share_less(self):
        for at, web in enumerate(self.webs()[::3]):
            mine = chances_of(web, at)
            for number, places in itertools.product(range(len(mine)), places_of(web)):
                top, bottom = betters.gain(web, mine, places, number, (1, 1))
                self.assertGreaterEqual(top, 0)
                self.assertGreaterEqual(betters.worths(web, mine, places)[number][0], 0)

    def test_the_desk_tells_the_same_number(self):
        for web in GREAT:
            mine = chances_of(web, 6)
            one = desk.Desk()
            one.say(f"places {web[0]}")
            for (a, b), (top, bottom) in zip(web[1], mine):
                one.say(f"tie {b} {a} {top}/{bottom}")
            self.assertEqual(one.say("web"), texts.web_text(web, mine))
            top, bottom = shares.share(web, mine, tuple(range(web[0])))
            self.assertEqual(one.say("all"), f"{top}/{bottom}")
            for a, b in itertools.combinations(range(web[0]), 2):
                top, bottom = shares.share(web, mine, (a, b))
                self.assertEqual(one.say(f"two {b} {a}"), f"{top}/{bottom}")
            self.assertEqual(one.say("trees"), str(len(onces.trees_paper(web))))
            lower, upper = bounds.bounds(web, mine, tuple(range(web[0])))
            self.assertEqual(one.say("bounds"),
                             f"{lower[0]}/{lower[1]} {upper[0]}/{upper[1]}")

    def test_halves(self):
        self.assertEqual(shares.share(TRIANGLE, HALVES[3], (0, 1, 2)), (1, 2))
        self.assertEqual(polys.share_at(TRIANGLE, (0, 1, 2), (1, 2)), (1, 2))


if __name__ == "__main__":
    unittest.main()
