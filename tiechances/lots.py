"""Good lots and cuts, all of them and the least ones."""

from tiechances.webs import are_joined, check_places, check_web


def all_lots(web):
    """The rising list of all lots of the web."""
    lots = [()]
    for number in range(len(web[1])):
        lots = lots + [lot + (number,) for lot in lots]
    return sorted(lots)


def other_ties(web, lot):
    """The lot of all ties that are not in this one."""
    return tuple([number for number in range(len(web[1])) if number not in lot])


def one_left_out(lot):
    """The lots that this one is with one of its ties left out."""
    return [lot[:at] + lot[at + 1:] for at in range(len(lot))]


def least_of(lots):
    """Those of the lots of which none is among them with a tie left out."""
    known = {lot: True for lot in lots}
    return [lot for lot in lots if not any([less in known for less in one_left_out(lot)])]


def is_cut(web, lot, places):
    """Whether the lot is a cut for the places; what is handed in is not checked."""
    return not are_joined(web, other_ties(web, lot), places)


def good_lots(web, places):
    """The rising list of all lots that are good for the places."""
    check_web(web)
    check_places(web, places)
    return [lot for lot in all_lots(web) if are_joined(web, lot, places)]


def least_good(web, places):
    """The rising list of the least good lots for the places."""
    return least_of(good_lots(web, places))


def cuts(web, places):
    """The rising list of all lots that are cuts for the places."""
    check_web(web)
    check_places(web, places)
    return [lot for lot in all_lots(web) if is_cut(web, lot, places)]


def least_cuts(web, places):
    """The rising list of the least cuts for the places."""
    return least_of(cuts(web, places))
