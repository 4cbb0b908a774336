"""Bounds of the share from both sides, and the papers that show them."""

from tiechances.chances import check_chances
from tiechances.errors import NoPaper
from tiechances.fracs import first_greatest, lack, product
from tiechances.lots import is_cut, least_cuts, least_good
from tiechances.webs import are_joined, check_places, check_web, is_lot, rises


def are_apart(lots):
    """Whether no two of the lots have a tie in common."""
    numbers = [number for lot in lots for number in lot]
    return len(set(numbers)) == len(numbers)


def are_lots_apart(web, thing):
    """Whether thing is a rising tuple of lots, none of them (), that are apart."""
    if not isinstance(thing, tuple):
        return False
    if not all([is_lot(web, lot) and len(lot) > 0 for lot in thing]):
        return False
    return rises(thing) and are_apart(thing)


def is_lower(web, places, thing):
    """Whether thing, which may be anything, is a lower paper of the web and places."""
    check_web(web)
    check_places(web, places)
    return are_lots_apart(web, thing) and all([are_joined(web, lot, places) for lot in thing])


def is_upper(web, places, thing):
    """Whether thing, which may be anything, is an upper paper of the web and places."""
    check_web(web)
    check_places(web, places)
    return are_lots_apart(web, thing) and all([is_cut(web, lot, places) for lot in thing])


def all_hold(chances, lot):
    """How likely all ties of the lot hold."""
    return product([chances[number] for number in lot])


def one_holds(chances, lot):
    """How likely one tie at least of the lot holds."""
    return lack(product([lack(chances[number]) for number in lot]))


def lower_by(chances, paper):
    """How likely one lot at least of the paper holds whole."""
    return lack(product([lack(all_hold(chances, lot)) for lot in paper]))


def upper_by(chances, paper):
    """How likely of each lot of the paper one tie at least holds."""
    return product([one_holds(chances, lot) for lot in paper])


def lower_shows(web, chances, places, paper):
    """The fraction that the lower paper shows by the chances."""
    check_chances(web, chances)
    check_places(web, places)
    if not is_lower(web, places, paper):
        raise NoPaper("this is no lower paper of the web and places")
    return lower_by(chances, paper)


def upper_shows(web, chances, places, paper):
    """The fraction that the upper paper shows by the chances."""
    check_chances(web, chances)
    check_places(web, places)
    if not is_upper(web, places, paper):
        raise NoPaper("this is no upper paper of the web and places")
    return upper_by(chances, paper)


def papers_of(lots):
    """The rising list of all papers made of these rising lots."""
    papers = [()]
    for lot in lots:
        # The empty lot is in no paper.
        if len(lot) > 0:
            papers = papers + [paper + (lot,) for paper in papers if are_apart(paper + (lot,))]
    return sorted(papers)


def lower_paper(web, chances, places):
    """The first paper of least good lots that shows the greatest number."""
    check_chances(web, chances)
    papers = papers_of(least_good(web, places))
    return papers[first_greatest([lower_by(chances, paper) for paper in papers])]


def upper_paper(web, chances, places):
    """The first paper of least cuts that shows the least number."""
    check_chances(web, chances)
    papers = papers_of(least_cuts(web, places))
    # The least number lacks the most.
    return papers[first_greatest([lack(upper_by(chances, paper)) for paper in papers])]


def bounds(web, chances, places):
    """The tuple of both bounds of the share, the lower one ahead."""
    lower = lower_by(chances, lower_paper(web, chances, places))
    return (lower, upper_by(chances, upper_paper(web, chances, places)))
