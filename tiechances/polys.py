"""The share as a polynomial, where all ties have one chance."""

from tiechances.chances import check_chance
from tiechances.fracs import is_less, plus, times
from tiechances.lots import good_lots
from tiechances.webs import check_places, check_web


def counts(web, places):
    """The list, at k, of how many good lots with k ties there are."""
    lots = good_lots(web, places)
    found = [0] * (len(web[1]) + 1)
    for lot in lots:
        found[len(lot)] += 1
    return found


def check_both(web, places, other, more):
    """Refuse with NoWeb what is no web of the two, then with NoPlaces what is no places."""
    check_web(web)
    check_web(other)
    check_places(web, places)
    check_places(other, more)


def are_alike(web, places, other, more):
    """Whether the two webs are alike in share for the places of each."""
    check_both(web, places, other, more)
    return counts(web, places) == counts(other, more)


def powers(web, places):
    """The list, at k, of the whole number that goes with the chance k times taken."""
    numbers = counts(web, places)
    found = [0] * len(numbers)
    for k, many in enumerate(numbers):
        # Each lot with fewer ties has one more that does not hold: times 1 less the chance.
        found = [here - ahead for here, ahead in zip(found, [0] + found)]
        found[k] += many
    return found


def share_at(web, places, chance):
    """The share of the places where all ties have this chance."""
    check_web(web)
    check_places(web, places)
    check_chance(chance)
    found = (0, 1)
    for number in powers(web, places)[::-1]:
        found = plus(times(found, chance), (number, 1))
    return found


def greater_at(web, places, other, more, chance):
    """Which share is greater at the chance: 1 the first, -1 the second, 0 neither."""
    check_both(web, places, other, more)
    first = share_at(web, places, chance)
    second = share_at(other, more, chance)
    if is_less(second, first):
        return 1
    return -1 if is_less(first, second) else 0
