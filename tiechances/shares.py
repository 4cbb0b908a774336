"""How likely a lot is, that places hang together, and each number of pieces."""

from tiechances.chances import check_chances
from tiechances.fracs import lowest
from tiechances.lots import all_lots, good_lots
from tiechances.webs import check_lot, check_places, pieces_by


def all_bottoms(chances):
    """The product of the bottoms of all chances."""
    found = 1
    for chance in chances:
        found *= chance[1]
    return found


def lot_top(chances, lot):
    """The top of the lot's chance, where its bottom is that of all_bottoms."""
    # One bottom for all lots: their chances are summed up by their tops alone.
    found = 1
    for number, (top, bottom) in enumerate(chances):
        found *= top if number in lot else bottom - top
    return found


def lot_chance(web, chances, lot):
    """The chance that just the ties of the lot hold."""
    check_chances(web, chances)
    check_lot(web, lot)
    return lowest(lot_top(chances, lot), all_bottoms(chances))


def lots_share(chances, lots):
    """How likely it is that the ties that hold are one of the lots."""
    return lowest(sum([lot_top(chances, lot) for lot in lots]), all_bottoms(chances))


def share(web, chances, places):
    """The chance that the places hang together."""
    check_chances(web, chances)
    check_places(web, places)
    return lots_share(chances, good_lots(web, places))


def pieces_shares(web, chances):
    """The list, at k, of the chance that there are k + 1 pieces."""
    check_chances(web, chances)
    tops = [0] * web[0]
    for lot in all_lots(web):
        tops[len(pieces_by(web, lot)) - 1] += lot_top(chances, lot)
    bottom = all_bottoms(chances)
    return [lowest(top, bottom) for top in tops]
