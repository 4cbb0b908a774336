"""Which tie to better: what each is worth, and what another chance gains."""

from tiechances.chances import check_chance, check_chances, with_chance
from tiechances.fracs import first_greatest, minus
from tiechances.lots import good_lots
from tiechances.shares import lots_share
from tiechances.webs import check_number, check_places


def worth(chances, good, number):
    """The share where the tie surely holds less that where it surely does not."""
    held = lots_share(with_chance(chances, number, (1, 1)), good)
    return minus(held, lots_share(with_chance(chances, number, (0, 1)), good))


def worths(web, chances, places):
    """The list of the worths of all ties, in order."""
    check_chances(web, chances)
    check_places(web, places)
    good = good_lots(web, places)
    return [worth(chances, good, number) for number in range(len(chances))]


def best_tie(web, chances, places):
    """The number of the first tie of the greatest worth, None where there is no tie."""
    return first_greatest(worths(web, chances, places))


def gain_by(chances, good, number, chance):
    """By how much the share is greater where the tie has that chance."""
    return minus(lots_share(with_chance(chances, number, chance), good), lots_share(chances, good))


def gain(web, chances, places, number, chance):
    """By how much the share is greater, or below 0 less, where the tie has that chance."""
    check_chances(web, chances)
    check_places(web, places)
    check_number(web, number)
    check_chance(chance)
    return gain_by(chances, good_lots(web, places), number, chance)


def best_raise(web, chances, places, chance):
    """The number of the first tie with the greatest gain, None where none is above 0."""
    check_chances(web, chances)
    check_places(web, places)
    check_chance(chance)
    good = good_lots(web, places)
    gains = [gain_by(chances, good, number, chance) for number in range(len(chances))]
    best = first_greatest(gains)
    if best is None or gains[best][0] <= 0:
        return None
    return best
