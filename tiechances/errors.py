"""The refusals: each is made with a text that says what was wrong."""


class ChanceError(ValueError):
    """Any refusal."""


class NoWeb(ChanceError):
    """What was handed in as a web is none."""


class NoLot(ChanceError):
    """What was handed in as a lot is none of the web."""


class NoPlaces(ChanceError):
    """What was handed in as places is none of the web."""


class NoPlace(ChanceError):
    """What was handed in as a place is none of the web."""


class NoTie(ChanceError):
    """There is no such tie."""


class NoChance(ChanceError):
    """What was handed in, or would come out, as a chance is none."""


class NoChances(ChanceError):
    """What was handed in as chances is none of the web."""


class NoPaper(ChanceError):
    """What was handed in as a paper is none."""


class TooMany(ChanceError):
    """There would be more places or ties than a web may have."""


class NoText(ChanceError):
    """What was handed in writes no web with chances."""


class NoLine(ChanceError):
    """What a desk was told is none of its lines."""


class NoDeed(ChanceError):
    """No deed stands that could be undone."""
