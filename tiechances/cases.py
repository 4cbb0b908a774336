"""Webs with a tie left out or drawn together, and papers that go by cases."""

from tiechances.chances import check_chances
from tiechances.errors import NoPaper
from tiechances.fracs import lack, plus, times
from tiechances.webs import (
    are_joined, check_number, check_places, check_web, closed_up, is_whole, renamed,
)


def without(web, number):
    """The web without the tie of this number."""
    check_web(web)
    check_number(web, number)
    many, ties = web
    return (many, ties[:number] + ties[number + 1:])


def name_drawn(place, tie):
    """The number that the place has where the two places of the tie are one."""
    stays, goes = tie
    return stays if place == goes else closed_up(place, goes)


def drawn_ties(ties, names, tie):
    """Tuples (tie, old number) of the ties that stay, as they are ordered then."""
    return sorted([(renamed(kept, names), old) for old, kept in enumerate(ties) if kept != tie])


def drawn(web, number):
    """The tuple (web, names, old) where the two places of the tie are one."""
    check_web(web)
    check_number(web, number)
    many, ties = web
    names = tuple([name_drawn(place, ties[number]) for place in range(many)])
    stay = drawn_ties(ties, names, ties[number])
    fewer = (many - 1, tuple([tie for tie, old in stay]))
    return (fewer, names, tuple([old for tie, old in stay]))


def taken_out(left, number):
    """The numbers of left but this one."""
    return tuple([kept for kept in left if kept != number])


def is_right_end(web, places, held, left, word):
    """Whether the word is right where held are taken to hold and only left may."""
    if word == "yes":
        return are_joined(web, held, places)
    return word == "no" and not are_joined(web, left, places)


def is_paper_for(web, places, held, left, thing):
    """Whether thing is a paper where held are taken to hold and only left may."""
    if not isinstance(thing, tuple) or len(thing) == 0 or not isinstance(thing[0], str):
        return False
    if len(thing) == 1:
        return is_right_end(web, places, held, left, thing[0])
    if len(thing) != 4 or thing[0] != "tie":
        return False
    number, one, other = thing[1:]
    # Of the ties that are taken none is in left but those that are held.
    if not is_whole(number) or number not in left or number in held:
        return False
    if not is_paper_for(web, places, held + (number,), left, one):
        return False
    return is_paper_for(web, places, held, taken_out(left, number), other)


def is_case_paper(web, places, thing):
    """Whether thing, which may be anything, is a case paper of the web and places."""
    check_web(web)
    check_places(web, places)
    return is_paper_for(web, places, (), tuple(range(len(web[1]))), thing)


def paper_for(web, places, held, left):
    """Some paper where held are taken to hold and only left may."""
    if are_joined(web, held, places):
        return ("yes",)
    if not are_joined(web, left, places):
        return ("no",)
    # Not all of left are held here: else the two questions were one.
    number = [free for free in left if free not in held][0]
    one = paper_for(web, places, held + (number,), left)
    other = paper_for(web, places, held, taken_out(left, number))
    return ("tie", number, one, other)


def case_paper(web, places):
    """Some case paper of the web and the places."""
    check_web(web)
    check_places(web, places)
    return paper_for(web, places, (), tuple(range(len(web[1]))))


def paper_shows(chances, paper):
    """What a paper, or a part of one, shows by the chances."""
    if paper[0] == "yes":
        return (1, 1)
    if paper[0] == "no":
        return (0, 1)
    number, one, other = paper[1:]
    chance = chances[number]
    holds = times(chance, paper_shows(chances, one))
    return plus(holds, times(lack(chance), paper_shows(chances, other)))


def case_shows(web, chances, places, paper):
    """The fraction that the case paper shows by the chances: the share."""
    check_chances(web, chances)
    check_places(web, places)
    if not is_case_paper(web, places, paper):
        raise NoPaper("this is no case paper of the web and places")
    return paper_shows(chances, paper)
