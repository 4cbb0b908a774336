"""Webs with chances, written as texts and read from them."""

from tiechances.chances import are_chances, check_chances
from tiechances.errors import NoText
from tiechances.webs import is_web

FIGURES = "0123456789"
# No number of a web or a chance has more; so no long row of figures is ever reckoned.
MOST_FIGURES = 4


def ratio_text(fraction):
    """The fraction, written T/U."""
    top, bottom = fraction
    return f"{top}/{bottom}"


def web_text(web, chances):
    """The text of the web with the chances."""
    check_chances(web, chances)
    many, ties = web
    rows = [f" {a}-{b}={ratio_text(chance)}" for (a, b), chance in zip(ties, chances)]
    return f"{many}:" + "".join(rows)


def read_number(word):
    """The number that the word writes, None where it writes none of at most four figures."""
    if not 1 <= len(word) <= MOST_FIGURES or not all([sign in FIGURES for sign in word]):
        return None
    if len(word) > 1 and word[0] == "0":
        return None
    return int(word)


def read_two(word, between):
    """The tuple of the two numbers that the word writes with a sign between, or None."""
    one, sign, other = word.partition(between)
    numbers = (read_number(one), read_number(other))
    return None if None in numbers else numbers


def read_ratio(word):
    """The tuple (top, bottom) that the word writes as T/U, or None."""
    return read_two(word, "/")


def read_row(word):
    """The tuple (tie, chance) that the word writes as A-B=T/U, or None."""
    left, sign, right = word.partition("=")
    row = (read_two(left, "-"), read_ratio(right))
    return None if None in row else row


def read_web(text):
    """The tuple (web, chances) that the text, which may be anything, writes."""
    if not isinstance(text, str):
        raise NoText("this is no text")
    head, *words = text.split(" ")
    rows = [read_row(word) for word in words]
    if not head.endswith(":") or None in rows:
        raise NoText("this text is not written as a web with chances is")
    web = (read_number(head[:-1]), tuple([tie for tie, chance in rows]))
    chances = tuple([chance for tie, chance in rows])
    if not is_web(web) or not are_chances(web, chances):
        raise NoText("this text writes no web with chances")
    return (web, chances)
