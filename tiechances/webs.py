"""Webs, their lots and places, and what hangs together by a lot."""

from tiechances.errors import NoLot, NoPlace, NoPlaces, NoTie, NoWeb

MOST_PLACES = 6
MOST_TIES = 8


def is_whole(thing):
    """Whether thing is a whole number."""
    # Python counts True and False as ints; the document does not.
    return isinstance(thing, int) and not isinstance(thing, bool)


def is_below(thing, many):
    """Whether thing is one of the numbers 0 to many - 1."""
    return is_whole(thing) and 0 <= thing < many


def is_tie(thing, many):
    """Whether thing is a tie between two of many places."""
    if not isinstance(thing, tuple) or len(thing) != 2:
        return False
    a, b = thing
    return is_below(a, many) and is_below(b, many) and a < b


def are_ties(thing, many):
    """Whether thing is the ties of some web of many places."""
    if not isinstance(thing, tuple) or len(thing) > MOST_TIES:
        return False
    # All are ties before any two are compared: other things need not compare.
    if not all([is_tie(tie, many) for tie in thing]):
        return False
    return all([one <= other for one, other in zip(thing, thing[1:])])


def is_web(thing):
    """Whether thing, which may be anything, is a web."""
    if not isinstance(thing, tuple) or len(thing) != 2:
        return False
    many, ties = thing
    return is_whole(many) and 1 <= many <= MOST_PLACES and are_ties(ties, many)


def rises(things):
    """Whether each of the things is greater than the one ahead; they must compare."""
    return all([one < other for one, other in zip(things, things[1:])])


def is_rising_below(thing, many):
    """Whether thing is a rising tuple of numbers from 0 to many - 1."""
    if not isinstance(thing, tuple):
        return False
    return all([is_below(number, many) for number in thing]) and rises(thing)


def is_lot(web, thing):
    """Whether thing is a lot of the web."""
    return is_rising_below(thing, len(web[1]))


def check_web(thing):
    """Refuse with NoWeb what is no web."""
    if not is_web(thing):
        raise NoWeb("this is no web")


def check_lot(web, thing):
    """Refuse with NoLot what is no lot of the web."""
    if not is_lot(web, thing):
        raise NoLot("this is no lot of the web")


def check_places(web, thing):
    """Refuse with NoPlaces what is not one or more of the web's places."""
    if not is_rising_below(thing, web[0]) or len(thing) == 0:
        raise NoPlaces("these are no places of the web")


def check_place(web, thing):
    """Refuse with NoPlace what is no place of the web."""
    if not is_below(thing, web[0]):
        raise NoPlace("this is no place of the web")


def check_number(web, thing):
    """Refuse with NoTie what is no number of a tie of the web."""
    if not is_below(thing, len(web[1])):
        raise NoTie("this is no number of a tie of the web")


def all_places(web):
    """All places of the web."""
    return tuple(range(web[0]))


def tie_of(one, other):
    """The tie of two unlike places, the lesser one ahead."""
    return (min(one, other), max(one, other))


def renamed(tie, names):
    """The tie between the places as they are numbered by the names."""
    a, b = tie
    return tie_of(names[a], names[b])


def closed_up(place, gone):
    """The number that a place has where another one, gone, is left out."""
    return place - 1 if place > gone else place


def marks_by(web, lot):
    """For each place a mark, the same for two just where they hang together."""
    many, ties = web
    marks = list(range(many))
    for number in lot:
        a, b = ties[number]
        kept = marks[a]
        gone = marks[b]
        marks = [kept if mark == gone else mark for mark in marks]
    return marks


def pieces_by(web, lot):
    """The rising list of the rising tuples of places that hang together."""
    check_web(web)
    check_lot(web, lot)
    groups = {}
    # Places come in rising order, so each group rises, and so do the groups.
    for place, mark in enumerate(marks_by(web, lot)):
        groups.setdefault(mark, []).append(place)
    return [tuple(group) for group in groups.values()]


def are_joined(web, lot, places):
    """Whether all these places hang together; what is handed in is not checked."""
    marks = marks_by(web, lot)
    return all([marks[place] == marks[places[0]] for place in places])


def hangs(web, lot, places):
    """Whether all these places hang together by the lot."""
    check_web(web)
    check_lot(web, lot)
    check_places(web, places)
    return are_joined(web, lot, places)
