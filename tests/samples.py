"""Things that the tests hand in, and webs made for them."""

import itertools


def nested(wrap, depth):
    """A thing with depth lists, tuples or dicts within one another."""
    thing = 1
    for _ in range(depth):
        thing = wrap(thing)
    return thing


def in_list(thing):
    return [thing]


def in_tuple(thing):
    return (thing,)


def in_pair(thing):
    return (1, thing)


def in_dict(thing):
    return {"a": thing}


def deep_things():
    return [
        nested(wrap, depth)
        for wrap in (in_list, in_tuple, in_pair, in_dict)
        for depth in (1, 2, 3, 24)
    ]


def plain_things():
    """Things of every kind that "of anything" takes in; no web, no chance."""
    return [
        None, True, False, 0, 1, 2, -1, 10 ** 30 - 1, 1 - 10 ** 30,
        "", "0", "01", "web", "(1, ())",
        [], [1, []], [1, ()], [[1, ()]], [0], [1, 2],
        {}, {1: ()}, {0: 1, 1: ()}, {"many": 1, "ties": ()},
        (None,), ("0",), ((),), ([],), ({},), (True,), (False,),
        (None, None), ("a", "b"), ((), ()), ([], []), ({}, {}),
        (0, 1, 2, None), (1, (), ()), (10 ** 30 - 1, ()),
    ] + deep_things()


def strange_things():
    """Things of kinds that only a refusal takes in."""
    return [
        1.0, 0.0, float("nan"), float("inf"), 1j, b"", b"01", set(), {0},
        frozenset(), frozenset((0,)), range(0), range(2), object(), object,
        len, iter(()), bytearray(b"0"), NotImplemented, ...,
        (0.0,), (1.0,), (float("nan"),), (object(),), (b"0",), (1.0, ()),
        ({0},), (range(1),),
    ]


def all_ties(many):
    return list(itertools.combinations(range(many), 2))


def webs_of(many, most_ties):
    """All webs of so many places with at most so many ties."""
    found = []
    for count in range(most_ties + 1):
        for ties in itertools.combinations_with_replacement(all_ties(many), count):
            found.append((many, ties))
    return found


def small_webs():
    found = []
    for many, most_ties in ((1, 8), (2, 8), (3, 4), (4, 3), (5, 2), (6, 2)):
        found.extend(webs_of(many, most_ties))
    return found


def lots_of(many):
    """All rising tuples of numbers below many."""
    found = []
    for count in range(many + 1):
        found.extend(itertools.combinations(range(many), count))
    return found


FULL = (6, ((0, 1), (0, 1), (0, 5), (1, 2), (2, 3), (2, 3), (3, 4), (4, 5)))
PATH = (4, ((0, 1), (1, 2), (2, 3)))
TWINS = (3, ((0, 1), (0, 1), (1, 2)))
LONE = (1, ())
EMPTY = (6, ())


def wrong_webs():
    """Webs of which just one thing is otherwise, by what that is."""
    return {
        "no places": (0, ()),
        "seven places": (7, ()),
        "places below nought": (-1, ()),
        "very many places": (10 ** 30 - 1, ()),
        "very few places": (1 - 10 ** 30, ()),
        "nine ties": (2, ((0, 1),) * 9),
        "nine unlike ties": (6, tuple(all_ties(6)[:9])),
        "a place with itself": (3, ((0, 1), (1, 1))),
        "place 0 with itself": (1, ((0, 0),)),
        "a tie turned about": (3, ((1, 0),)),
        "a later tie turned about": (3, ((0, 1), (2, 1))),
        "a place too great": (3, ((0, 3),)),
        "a tie in a lone place": (1, ((0, 1),)),
        "a place below nought": (3, ((-1, 1),)),
        "a place far too great": (3, ((0, 10 ** 30 - 1),)),
        "wrong order": (3, ((1, 2), (0, 1))),
        "wrong order in the second": (3, ((0, 2), (0, 1))),
        "wrong order at the end": (4, ((0, 1), (2, 3), (1, 3))),
        "a list for the web": [3, ((0, 1),)],
        "a list for the ties": (3, [(0, 1)]),
        "an empty list for the ties": (3, []),
        "a list for a tie": (3, ([0, 1],)),
        "a list for the last tie": (3, ((0, 1), [1, 2])),
        "a dict for the ties": (3, {(0, 1): (0, 1)}),
        "a text for the ties": (3, ""),
        "None for the ties": (3, None),
        "a truth for many": (True, ()),
        "a falsehood for many": (False, ()),
        "a text for many": ("3", ()),
        "None for many": (None, ()),
        "a list for many": ([3], ()),
        "a falsehood in a tie": (3, ((False, 1),)),
        "a truth in a tie": (3, ((0, True),)),
        "a truth ahead in a tie": (3, ((True, 2),)),
        "a text in a tie": (3, ((0, "1"),)),
        "None in a tie": (3, ((None, 1),)),
        "a tuple in a tie": (3, ((0, (1,)),)),
        "None for a tie": (3, (None,)),
        "a text for a tie": (3, ("01",)),
        "a number for a tie": (3, (0, 1)),
        "a dict for a tie": (3, ({0: 0, 1: 1},)),
        "a tie of one": (3, ((0,),)),
        "a tie of three": (3, ((0, 1, 2),)),
        "a tie of none": (3, ((),)),
        "one thing more": (3, ((0, 1),), ()),
        "one thing fewer": (3,),
        "nothing": (),
        "turned about": (((0, 1),), 3),
        "things that do not compare": (3, ((0, 1), ("a", None), (1, 2))),
    }


def no_webs():
    return list(wrong_webs().values()) + plain_things() + strange_things()
