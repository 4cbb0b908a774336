"""Chances, and chances of a web."""

from tiechances.errors import NoChance, NoChances
from tiechances.fracs import common_divisor
from tiechances.webs import check_web, is_whole

MOST_BOTTOM = 1000


def is_chance(thing):
    """Whether thing, which may be anything, is a chance."""
    if not isinstance(thing, tuple) or len(thing) != 2:
        return False
    top, bottom = thing
    if not is_whole(top) or not is_whole(bottom):
        return False
    if not 1 <= bottom <= MOST_BOTTOM or not 0 <= top <= bottom:
        return False
    return common_divisor(top, bottom) == 1


def are_chances(web, thing):
    """Whether thing, which may be anything, is chances of the web."""
    check_web(web)
    if not isinstance(thing, tuple) or len(thing) != len(web[1]):
        return False
    return all([is_chance(chance) for chance in thing])


def check_chance(thing):
    """Refuse with NoChance what is no chance."""
    if not is_chance(thing):
        raise NoChance("this is no chance")


def check_chances(web, thing):
    """Refuse with NoWeb what is no web, then with NoChances what is no chances of it."""
    if not are_chances(web, thing):
        raise NoChances("these are no chances of the web")


def with_chance(chances, number, chance):
    """The chances where the tie of this number has that chance."""
    return chances[:number] + (chance,) + chances[number + 1:]
