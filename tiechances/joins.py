"""Webs put together, and two ties of a web made one."""

from tiechances.chances import check_chance, check_chances, with_chance
from tiechances.errors import NoTie, TooMany
from tiechances.fracs import lack, times
from tiechances.webs import (
    MOST_PLACES, MOST_TIES, check_number, check_place, check_web, closed_up, renamed, tie_of,
)


def put_together(many, one, other, names):
    """The tuple (web, whence) of so many places, the other's places numbered by names."""
    rows = [(tie, 0, number) for number, tie in enumerate(one[1])]
    rows = rows + [(renamed(tie, names), 1, number) for number, tie in enumerate(other[1])]
    if many > MOST_PLACES or len(rows) > MOST_TIES:
        raise TooMany("both webs together have too many places or ties")
    rows = sorted(rows)
    web = (many, tuple([tie for tie, which, number in rows]))
    return (web, tuple([(which, number) for tie, which, number in rows]))


def beside(one, other):
    """The tuple (web, whence) of both webs beside one another."""
    check_web(one)
    check_web(other)
    names = [one[0] + place for place in range(other[0])]
    return put_together(one[0] + other[0], one, other, names)


def hung(one, place, other, there):
    """The tuple (web, whence) of both webs, place of the one and there of the other made one."""
    check_web(one)
    check_web(other)
    check_place(one, place)
    check_place(other, there)
    names = [one[0] + closed_up(old, there) for old in range(other[0])]
    names[there] = place
    return put_together(one[0] + other[0] - 1, one, other, names)


def tie_added(web, chances, tie, chance):
    """The tuple (web, chances) with one more tie, behind those that are alike with it."""
    many, ties = web
    at = len([old for old in ties if old <= tie])
    return ((many, ties[:at] + (tie,) + ties[at:]), chances[:at] + (chance,) + chances[at:])


def place_left_out(web, chances, place):
    """The tuple (web, chances) without the place and its ties."""
    many, ties = web
    names = [closed_up(old, place) for old in range(many)]
    kept = [number for number, tie in enumerate(ties) if place not in tie]
    fewer = (many - 1, tuple([renamed(ties[number], names) for number in kept]))
    return (fewer, tuple([chances[number] for number in kept]))


def row_made(web, chances, place):
    """The tuple (web, chances) where the two ties of the place are made one."""
    check_chances(web, chances)
    check_place(web, place)
    numbers = [number for number, tie in enumerate(web[1]) if place in tie]
    # A tie's two places come to the one beyond the place, if this is taken from their sum.
    ends = [sum(web[1][number]) - place for number in numbers]
    if len(ends) != 2 or ends[0] == ends[1]:
        raise NoTie("the place has not just two ties, to two unlike places")
    chance = times(chances[numbers[0]], chances[numbers[1]])
    check_chance(chance)
    fewer, left = place_left_out(web, chances, place)
    tie = tie_of(closed_up(ends[0], place), closed_up(ends[1], place))
    return tie_added(fewer, left, tie, chance)


def pair_made(web, chances, number):
    """The tuple (web, chances) where the tie and the alike next one are made one."""
    check_chances(web, chances)
    check_number(web, number)
    many, ties = web
    after = number + 1
    if after == len(ties) or ties[number] != ties[after]:
        raise NoTie("the tie of the next number is not alike")
    chance = lack(times(lack(chances[number]), lack(chances[after])))
    check_chance(chance)
    left = with_chance(chances, number, chance)
    return ((many, ties[:after] + ties[after + 1:]), left[:after] + left[after + 1:])
