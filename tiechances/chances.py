"""Chances, and chances of a web."""

from tiechances.webs import check_web, is_whole

MOST_BOTTOM = 1000


def common_divisor(one, other):
    """The greatest number that divides both; other is above 0."""
    while other > 0:
        one, other = other, one % other
    return one


def is_chance(thing):
    """Whether thing, which may be anything, is a chance."""
    if not isinstance(thing, tuple) or len(thing) != 2:
        return False
    top, bottom = thing
    if not is_whole(top) or not is_whole(bottom):
        return False
    if not 1 <= bottom <= MOST_BOTTOM or not 0 <= top <= bottom:
        return False
    return common_divisor(top, bottom) == 1


def are_chances(web, thing):
    """Whether thing, which may be anything, is chances of the web."""
    check_web(web)
    if not isinstance(thing, tuple) or len(thing) != len(web[1]):
        return False
    return all([is_chance(chance) for chance in thing])
