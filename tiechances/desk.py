"""A desk that has a web with chances and is told lines: deeds and questions."""

from tiechances.bounds import bounds
from tiechances.cases import without
from tiechances.chances import check_chance, with_chance
from tiechances.errors import NoDeed, NoLine, NoPlace, TooMany
from tiechances.joins import tie_added
from tiechances.lots import least_good
from tiechances.shares import share
from tiechances.texts import ratio_text, read_number, read_ratio, web_text
from tiechances.webs import (
    MOST_PLACES, MOST_TIES, all_places, check_number, check_place, tie_of,
)

# For the first word of each line what stands behind it.
FORMS = {
    "places": ("number",),
    "tie": ("number", "number", "ratio"),
    "chance": ("number", "ratio"),
    "cut": ("number",),
    "back": (),
    "web": (),
    "all": (),
    "two": ("number", "number"),
    "trees": (),
    "bounds": (),
}


def read_part(form, word):
    """What the word writes, None where it does not write what its form is."""
    return read_number(word) if form == "number" else read_ratio(word)


def read_line(line):
    """The first word of the line, and the list of what stands behind it."""
    if not isinstance(line, str):
        raise NoLine("this is no text")
    first, *words = line.split(" ")
    if first not in FORMS or len(words) != len(FORMS[first]):
        raise NoLine("a desk is told no such line")
    parts = [read_part(form, word) for form, word in zip(FORMS[first], words)]
    if None in parts:
        raise NoLine("a number or a chance is not written as it should be")
    return (first, parts)


def check_two(web, one, other):
    """Refuse with NoPlace what are not two unlike places of the web."""
    check_place(web, one)
    check_place(web, other)
    if one == other:
        raise NoPlace("both places are one")


def places_made(web, chances, parts):
    """The tuple (web, chances) of so many places without ties."""
    many = parts[0]
    if not 1 <= many <= MOST_PLACES:
        raise NoLine("a web has not so many places")
    return ((many, ()), ())


def tie_made(web, chances, parts):
    """The tuple (web, chances) with one more tie."""
    one, other, chance = parts
    check_two(web, one, other)
    check_chance(chance)
    if len(web[1]) >= MOST_TIES:
        raise TooMany("the web has as many ties as it may have")
    return tie_added(web, chances, tie_of(one, other), chance)


def chance_given(web, chances, parts):
    """The tuple (web, chances) where a tie has another chance."""
    number, chance = parts
    check_number(web, number)
    check_chance(chance)
    return (web, with_chance(chances, number, chance))


def tie_cut(web, chances, parts):
    """The tuple (web, chances) without a tie."""
    number = parts[0]
    fewer = without(web, number)
    return (fewer, chances[:number] + chances[number + 1:])


def web_asked(web, chances, parts):
    """The text of the web."""
    return web_text(web, chances)


def all_asked(web, chances, parts):
    """The share of all places."""
    return ratio_text(share(web, chances, all_places(web)))


def two_asked(web, chances, parts):
    """The share of two places."""
    one, other = parts
    check_two(web, one, other)
    return ratio_text(share(web, chances, tie_of(one, other)))


def trees_asked(web, chances, parts):
    """How many least good lots there are for all places."""
    return str(len(least_good(web, all_places(web))))


def bounds_asked(web, chances, parts):
    """Both bounds of the share of all places."""
    lower, upper = bounds(web, chances, all_places(web))
    return f"{ratio_text(lower)} {ratio_text(upper)}"


DEEDS = {"places": places_made, "tie": tie_made, "chance": chance_given, "cut": tie_cut}
QUESTIONS = {
    "web": web_asked,
    "all": all_asked,
    "two": two_asked,
    "trees": trees_asked,
    "bounds": bounds_asked,
}


class Desk:
    """A web with chances, and what they were ahead of each deed that stands."""

    def __init__(self):
        self.web = (1, ())
        self.chances = ()
        self.ahead = []

    def take_back(self):
        """Undo the last deed that stands."""
        if len(self.ahead) == 0:
            raise NoDeed("no deed stands")
        self.web, self.chances = self.ahead.pop()
        return "ok"

    def say(self, line):
        """The answer to the line, which may be anything."""
        word, parts = read_line(line)
        if word == "back":
            return self.take_back()
        if word in QUESTIONS:
            question = QUESTIONS[word]
            return question(self.web, self.chances, parts)
        deed = DEEDS[word]
        # A refusal comes ahead of any change.
        web, chances = deed(self.web, self.chances, parts)
        self.ahead.append((self.web, self.chances))
        self.web, self.chances = web, chances
        return "ok"
