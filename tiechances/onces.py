"""Papers that tell the share at once, by lots held and not held; the trees' paper."""

from tiechances.cases import case_paper
from tiechances.chances import check_chances
from tiechances.errors import NoPaper
from tiechances.fracs import lack, plus, product
from tiechances.lots import good_lots, least_good, other_ties
from tiechances.webs import all_places, are_joined, check_places, check_web, is_lot, rises


def mask_of(lot):
    """The lot as one number, a bit for each tie: masks of lots are quick to compare."""
    return sum([1 << number for number in lot])


def masks_of(pair):
    """The masks of the two lots of the pair."""
    return (mask_of(pair[0]), mask_of(pair[1]))


def is_pair(web, places, thing):
    """Whether thing is (held, not_held), lots without a common tie, held a good one."""
    if not isinstance(thing, tuple) or len(thing) != 2:
        return False
    if not is_lot(web, thing[0]) or not is_lot(web, thing[1]):
        return False
    held, not_held = masks_of(thing)
    return held & not_held == 0 and are_joined(web, thing[0], places)


def is_between(one, other):
    """Whether some tie is held by either of two pairs of masks and not held by the other."""
    return one[0] & other[1] > 0 or other[0] & one[1] > 0


def are_all_apart(pairs):
    """Whether of any two pairs of masks some tie is held by one and not held by the other."""
    for at, one in enumerate(pairs):
        if not all([is_between(one, other) for other in pairs[:at]]):
            return False
    return True


def is_stood_for(mask, pairs):
    """Whether the lot of the mask has, for some pair, all held and none not held."""
    return any([mask & held == held and mask & not_held == 0 for held, not_held in pairs])


def is_once_paper(web, places, thing):
    """Whether thing, which may be anything, is an at-once paper of the web and places."""
    check_web(web)
    check_places(web, places)
    if not isinstance(thing, tuple) or not all([is_pair(web, places, pair) for pair in thing]):
        return False
    pairs = [masks_of(pair) for pair in thing]
    if not rises(thing) or not are_all_apart(pairs):
        return False
    return all([is_stood_for(mask_of(lot), pairs) for lot in good_lots(web, places)])


def yes_ends(paper, held, not_held):
    """For each ("yes",) of a case paper the lots that are taken to hold and not to."""
    if paper[0] == "yes":
        return [(tuple(sorted(held)), tuple(sorted(not_held)))]
    if paper[0] == "no":
        return []
    number, one, other = paper[1:]
    return yes_ends(one, held + (number,), not_held) + yes_ends(other, held, not_held + (number,))


def once_paper(web, places):
    """Some at-once paper of the web and the places."""
    # Two ends of a case paper part at some tie, and each good lot leads to one.
    return tuple(sorted(yes_ends(case_paper(web, places), (), ())))


def pair_shows(chances, pair):
    """How likely the one lot of the pair holds whole and of the other no tie."""
    held = [chances[number] for number in pair[0]]
    return product(held + [lack(chances[number]) for number in pair[1]])


def once_shows(web, chances, places, paper):
    """The fraction that the at-once paper shows by the chances: the share."""
    check_chances(web, chances)
    check_places(web, places)
    if not is_once_paper(web, places, paper):
        raise NoPaper("this is no at-once paper of the web and places")
    found = (0, 1)
    for pair in paper:
        found = plus(found, pair_shows(chances, pair))
    return found


def is_passed_over(web, tree, number):
    """Whether the tie, not in the tree, is less than some tie of the way between its places."""
    # It is less than none just where the tree's lesser ties are the whole way.
    lesser = tuple([taken for taken in tree if taken < number])
    return not are_joined(web, lesser, web[1][number])


def tree_pair(web, tree):
    """The tuple of the tree and the lot of the ties that are not held with it."""
    others = other_ties(web, tree)
    return (tree, tuple([number for number in others if is_passed_over(web, tree, number)]))


def trees_paper(web):
    """The trees' paper of the web, a tuple (tree, not_held) for each tree."""
    check_web(web)
    return tuple([tree_pair(web, tree) for tree in least_good(web, all_places(web))])
