"""Things that the tests hand in, and webs made for them."""

import functools
import itertools
import unittest
from fractions import Fraction


def nested(wrap, depth):
    """A thing with depth lists, tuples or dicts within one another."""
    thing = 1
    for _ in range(depth):
        thing = wrap(thing)
    return thing


def in_list(thing):
    return [thing]


def in_tuple(thing):
    return (thing,)


def in_pair(thing):
    return (1, thing)


def in_dict(thing):
    return {"a": thing}


def deep_things():
    return [
        nested(wrap, depth)
        for wrap in (in_list, in_tuple, in_pair, in_dict)
        for depth in (1, 2, 3, 24)
    ]


def plain_things():
    """Things of every kind that "of anything" takes in; no web, no chance."""
    return [
        None, True, False, 0, 1, 2, -1, 10 ** 30 - 1, 1 - 10 ** 30,
        "", "0", "01", "web", "(1, ())",
        [], [1, []], [1, ()], [[1, ()]], [0], [1, 2],
        {}, {1: ()}, {0: 1, 1: ()}, {"many": 1, "ties": ()},
        (None,), ("0",), ((),), ([],), ({},), (True,), (False,),
        (None, None), ("a", "b"), ((), ()), ([], []), ({}, {}),
        (0, 1, 2, None), (1, (), ()), (10 ** 30 - 1, ()),
    ] + deep_things()


class Touchy:
    """A thing that bears no comparing, no counting and no going through."""

    def fail(self, *handed):
        raise AssertionError("this thing was looked into")

    __eq__ = __ne__ = __lt__ = __gt__ = __le__ = __ge__ = __hash__ = fail
    __len__ = __iter__ = __getitem__ = __contains__ = __bool__ = __index__ = fail


def strange_things():
    """Things of kinds that only a refusal takes in."""
    return [
        Touchy(), (Touchy(),), (Touchy(), Touchy()),
        1.0, 0.0, float("nan"), float("inf"), 1j, b"", b"01", set(), {0},
        frozenset(), frozenset((0,)), range(0), range(2), object(), object,
        len, iter(()), bytearray(b"0"), NotImplemented, ...,
        (0.0,), (1.0,), (float("nan"),), (object(),), (b"0",), (1.0, ()),
        ({0},), (range(1),),
    ]


def all_ties(many):
    return list(itertools.combinations(range(many), 2))


def webs_of(many, most_ties):
    """All webs of so many places with at most so many ties."""
    found = []
    for count in range(most_ties + 1):
        for ties in itertools.combinations_with_replacement(all_ties(many), count):
            found.append((many, ties))
    return found


def small_webs():
    found = []
    for many, most_ties in ((1, 8), (2, 8), (3, 4), (4, 3), (5, 2), (6, 2)):
        found.extend(webs_of(many, most_ties))
    return found


def lots_of(many):
    """All rising tuples of numbers below many."""
    found = []
    for count in range(many + 1):
        found.extend(itertools.combinations(range(many), count))
    return found


def chances_of(web, start):
    """Some chances of the web, others for another start."""
    kinds = ((1, 2), (2, 3), (0, 1), (997, 1000), (1, 1), (3, 7), (1, 1000), (5, 6),
             (499, 997), (1, 991), (999, 1000), (4, 9), (982, 983))
    return tuple(kinds[(start + 5 * at) % len(kinds)] for at in range(len(web[1])))


# Bottoms of which no two have a divisor in common.
PRIMES = ((990, 991), (996, 997), (1, 983), (976, 977), (500, 971), (966, 967), (2, 953), (946, 947))
# The chances of so many ties, all of them one half.
HALVES = {many: ((1, 2),) * many for many in range(9)}

FULL = (6, ((0, 1), (0, 1), (0, 5), (1, 2), (2, 3), (2, 3), (3, 4), (4, 5)))
PATH = (4, ((0, 1), (1, 2), (2, 3)))
TWINS = (3, ((0, 1), (0, 1), (1, 2)))
LONE = (1, ())
EMPTY = (6, ())
TRIANGLE = (3, ((0, 1), (0, 2), (1, 2)))
# Two pieces that no tie joins, and a place without ties.
APART = (6, ((0, 2), (0, 2), (0, 4), (1, 5), (2, 4)))
ALIKE = (2, ((0, 1),) * 8)

# Webs of many ties: too many webs are such to go through all of them.
GREAT = (
    FULL, APART, ALIKE,
    (4, ((0, 1), (0, 2), (0, 3), (1, 2), (1, 3), (2, 3))),
    (4, ((0, 1), (0, 1), (0, 3), (0, 3), (1, 2), (1, 3), (2, 3), (2, 3))),
    (5, ((0, 1), (0, 2), (0, 3), (0, 4), (1, 2), (1, 4), (2, 3), (3, 4))),
    (5, ((0, 4), (0, 4), (0, 4), (1, 3), (1, 4), (2, 3), (2, 4), (3, 4))),
    (6, ((0, 1), (0, 5), (1, 2), (1, 4), (2, 3), (2, 5), (3, 4), (4, 5))),
    (6, ((0, 3), (0, 4), (0, 5), (1, 3), (1, 4), (1, 5), (2, 3), (2, 4))),
    (6, ((1, 3), (1, 3), (1, 4), (3, 4), (3, 4), (3, 5), (4, 5), (4, 5))),
    (3, ((0, 1), (0, 1), (0, 2), (0, 2), (0, 2), (1, 2), (1, 2), (1, 2))),
)

# One place and two, some, and all, as far as a web has them.
SOME_PLACES = ((0,), (5,), (0, 1), (1, 3), (4, 5), (0, 2, 4), (1, 2, 3))


def places_of(web):
    """Some places of the web: one, two, more, all."""
    found = [places for places in SOME_PLACES if places[-1] < web[0]]
    return found + [tuple(range(web[0]))]


def wrong_webs():
    """Webs of which just one thing is otherwise, by what that is."""
    return {
        "no places": (0, ()),
        "seven places": (7, ()),
        "places below nought": (-1, ()),
        "very many places": (10 ** 30 - 1, ()),
        "very few places": (1 - 10 ** 30, ()),
        "nine ties": (2, ((0, 1),) * 9),
        "nine unlike ties": (6, tuple(all_ties(6)[:9])),
        "a place with itself": (3, ((0, 1), (1, 1))),
        "place 0 with itself": (1, ((0, 0),)),
        "a tie turned about": (3, ((1, 0),)),
        "a later tie turned about": (3, ((0, 1), (2, 1))),
        "a place too great": (3, ((0, 3),)),
        "a tie in a lone place": (1, ((0, 1),)),
        "a place below nought": (3, ((-1, 1),)),
        "a place far too great": (3, ((0, 10 ** 30 - 1),)),
        "wrong order": (3, ((1, 2), (0, 1))),
        "wrong order in the second": (3, ((0, 2), (0, 1))),
        "wrong order at the end": (4, ((0, 1), (2, 3), (1, 3))),
        "a list for the web": [3, ((0, 1),)],
        "a list for the ties": (3, [(0, 1)]),
        "an empty list for the ties": (3, []),
        "a list for a tie": (3, ([0, 1],)),
        "a list for the last tie": (3, ((0, 1), [1, 2])),
        "a dict for the ties": (3, {(0, 1): (0, 1)}),
        "a text for the ties": (3, ""),
        "None for the ties": (3, None),
        "a truth for many": (True, ()),
        "a falsehood for many": (False, ()),
        "a text for many": ("3", ()),
        "None for many": (None, ()),
        "a list for many": ([3], ()),
        "a falsehood in a tie": (3, ((False, 1),)),
        "a truth in a tie": (3, ((0, True),)),
        "a truth ahead in a tie": (3, ((True, 2),)),
        "a text in a tie": (3, ((0, "1"),)),
        "None in a tie": (3, ((None, 1),)),
        "a tuple in a tie": (3, ((0, (1,)),)),
        "None for a tie": (3, (None,)),
        "a text for a tie": (3, ("01",)),
        "a number for a tie": (3, (0, 1)),
        "a dict for a tie": (3, ({0: 0, 1: 1},)),
        "a tie of one": (3, ((0,),)),
        "a tie of three": (3, ((0, 1, 2),)),
        "a tie of none": (3, ((),)),
        "one thing more": (3, ((0, 1),), ()),
        "one thing fewer": (3,),
        "nothing": (),
        "turned about": (((0, 1),), 3),
        "things that do not compare": (3, ((0, 1), ("a", None), (1, 2))),
    }


def no_webs():
    return list(wrong_webs().values()) + plain_things() + strange_things()


def wrong_chances():
    """Chances of which just one thing is otherwise, by what that is."""
    return {
        "not lowest": (2, 4),
        "not lowest, by three": (3, 9),
        "not lowest, by a great number": (499, 998),
        "nought not lowest": (0, 2),
        "nought of 1000": (0, 1000),
        "one not lowest": (2, 2),
        "1000 of 1000": (1000, 1000),
        "top above bottom": (3, 2),
        "top above a bottom of 1": (2, 1),
        "top far above bottom": (10 ** 30 - 1, 1000),
        "top below nought": (-1, 2),
        "top below nought, bottom 1": (-1, 1),
        "both below nought": (-1, -2),
        "bottom of nought": (0, 0),
        "1 of nought": (1, 0),
        "bottom below nought": (1, -2),
        "nought of a bottom below nought": (0, -1),
        "bottom of 1001": (1, 1001),
        "bottom of 1001, top 1000": (1000, 1001),
        "bottom far too great": (1, 10 ** 30 - 1),
        "a truth for top": (True, 2),
        "a falsehood for top": (False, 1),
        "a truth for bottom": (1, True),
        "nought of a truth": (0, True),
        "a falsehood for bottom": (0, False),
        "two truths": (True, True),
        "a list": [1, 2],
        "a list for top": ([1], 2),
        "a list for bottom": (1, [2]),
        "a tuple for top": ((1,), 2),
        "a text": "12",
        "a text for top": ("1", 2),
        "a text for bottom": (1, "2"),
        "None for top": (None, 2),
        "None for bottom": (1, None),
        "a dict": {1: 1, 2: 2},
        "one number more": (1, 2, 3),
        "one number fewer": (1,),
        "nothing": (),
        "a number": 1,
    }


def reached(web, lot, start):
    """All places to which the lot's ties lead from start, by walking."""
    seen = {start}
    while True:
        more = set(seen)
        for number in lot:
            pair = set(web[1][number])
            if pair & seen:
                more |= pair
        if more == seen:
            return seen
        seen = more


def is_good(web, lot, places):
    """Whether the places hang together by the lot, by walking."""
    return set(places) <= reached(web, lot, places[0])


@functools.lru_cache(maxsize=None)
def walked_good(web, places):
    """All lots that are good for the places, rising, by walking."""
    return tuple(lot for lot in sorted(lots_of(len(web[1]))) if is_good(web, lot, places))


@functools.lru_cache(maxsize=None)
def walked_cuts(web, places):
    """All cuts for the places, rising, by walking."""
    return tuple(lot for lot in sorted(lots_of(len(web[1])))
                 if not is_good(web, rest_of(web, lot), places))


def least_by_parts(lots):
    """Those lots of which no other one is a part, whatever is left out."""
    return [lot for lot in lots
            if not any(set(other) < set(lot) for other in lots)]


def rest_of(web, lot):
    return tuple(number for number in range(len(web[1])) if number not in lot)


def as_tuple(fraction):
    return (fraction.numerator, fraction.denominator)


def walked_chance(chances, lot):
    """The chance that just the ties of the lot hold."""
    found = Fraction(1)
    for number, (top, bottom) in enumerate(chances):
        found *= Fraction(top, bottom) if number in lot else 1 - Fraction(top, bottom)
    return found


def summed_share(web, chances, places):
    """The share of the places, lot by lot."""
    return sum((walked_chance(chances, lot) for lot in walked_good(web, places)), Fraction(0))


def chances_put(chances, number, chance):
    """The chances with another one for the tie of this number."""
    found = list(chances)
    found[number] = chance
    return tuple(found)


def orders_of(web):
    """Some orders of the numbers of the web's ties; all, where there are few ties."""
    ties = list(range(len(web[1])))
    if len(ties) <= 3:
        return [list(order) for order in itertools.permutations(ties)]
    return [ties, ties[::-1], ties[::2] + ties[1::2], ties[4:] + ties[:4]]


def not_rising_below(many):
    """What is no rising tuple of some of many numbers, many 3 or more."""
    return [
        (1, 0), (0, 0), (2, 1), (0, 2, 1), (0, 1, 1), (many,), (0, many),
        (-1,), (-1, 0), (10 ** 30 - 1,), (1 - 10 ** 30,),
        [], [0], [0, 1], (True,), (False,), (False, True), (0, True),
        (False, 1), True, False, 0, 1, None, "", "0", {}, {0: 0}, ("0",),
        (0, "1"), (None,), (0, None), ([0],), ((0,),), (0, (1,)), ((),),
        (0, [], {}), ({},),
    ]


def no_lots(web):
    """What is no lot of a web with three ties or more."""
    return not_rising_below(len(web[1]))


def no_places(web):
    """What is no places of a web with three places or more."""
    return not_rising_below(web[0]) + [()]


def not_below(many):
    """What is none of the numbers below many, many at most 8."""
    things = [many, many + 1, -1, -many - 1, 8, 10 ** 30 - 1, 1 - 10 ** 30, 0.5, "1",
              [0], (0,), (0, 1)]
    others = [thing for thing in plain_things()
              if isinstance(thing, bool) or not isinstance(thing, int)]
    return things + others + strange_things()


def no_numbers(web):
    """What is no number of a tie of the web."""
    return not_below(len(web[1]))


def no_place_things(web):
    """What is no place of the web."""
    return not_below(web[0])


def no_chance_things():
    """What is no chance."""
    plain = [thing for thing in plain_things() if thing != (1, 1)]
    return list(wrong_chances().values()) + plain + strange_things()


def no_chances(web):
    """What is no chances of a web with three ties or more."""
    many = len(web[1])
    fine = ((1, 2),) * many
    found = [fine[1:], fine + ((1, 2),), list(fine), (1, 2), (1,) * many, "1/2" * many,
             {number: (1, 2) for number in range(many)}]
    for wrong in wrong_chances().values():
        found.extend([fine[1:] + (wrong,), (wrong,) + fine[1:]])
    return found + plain_things() + strange_things()


def plainly_none():
    """Things that are neither a lot nor places of any web."""
    wholes = [thing for thing in plain_things() if thing not in ((1,),)]
    return wholes + strange_things()


class Asking(unittest.TestCase):
    def assertRefused(self, refusal, ask, *handed):
        with self.assertRaises(refusal) as caught:
            ask(*handed)
        self.assertEqual(type(caught.exception), refusal)
        self.assertNotEqual(str(caught.exception), "")

    def assertInOrder(self, ask, right, *steps):
        """Each step (refusal, at, things) is due ahead of the later ones.

        The right arguments are refused with things in their place at the step's
        place, whether what the later steps look at is right or, as None, wrong.
        """
        for step, (refusal, at, things) in enumerate(steps):
            for thing in things:
                handed = list(right)
                handed[at] = thing
                self.assertRefused(refusal, ask, *handed)
                for later in steps[:step:-1]:
                    handed[later[1]] = None
                    self.assertRefused(refusal, ask, *handed)

    def assertFraction(self, told):
        """A tuple of two whole numbers in lowest terms."""
        self.assertIs(type(told), tuple)
        self.assertEqual([type(number) for number in told], [int, int])
        self.assertEqual(as_tuple(Fraction(*told)), told)
