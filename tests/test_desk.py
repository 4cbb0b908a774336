import copy
import random
import re
import unittest

from tests.samples import (
    Asking, Touchy, as_tuple, chances_put, least_by_parts, plain_things, strange_things,
    summed_share, walked_good,
)
from tiechances.bounds import bounds
from tiechances.desk import Desk
from tiechances.errors import (
    ChanceError, NoChance, NoDeed, NoLine, NoPlace, NoTie, TooMany,
)
from tiechances.texts import read_web, web_text

QUESTIONS = ("web", "all", "trees", "bounds", "two 0 1", "two 1 2")


def told(*lines):
    """A desk that was told these lines, each of them a deed that stands."""
    desk = Desk()
    for line in lines:
        assert desk.say(line) == "ok", line
    return desk


def answers(desk):
    """What the desk answers to all questions, a refusal by its class."""
    found = []
    for line in QUESTIONS:
        try:
            found.append(desk.say(line))
        except ChanceError as refusal:
            found.append(type(refusal))
    return found


class Model:
    """A desk by the test's own reckoning: each deed gives a new web from the one ahead."""

    def __init__(self):
        self.states = [((1, ()), ())]

    def say(self, line):
        figures = "(0|[1-9][0-9]{0,3})"
        for pattern, deed in (
                ("places N", self.places), ("tie N N N/N", self.tie), ("chance N N/N", self.chance),
                ("cut N", self.cut), ("back", self.back), ("web", self.web), ("all", self.all),
                ("two N N", self.two), ("trees", self.trees), ("bounds", self.bounds)):
            match = re.fullmatch(pattern.replace("N", figures), line)
            if match:
                return deed(*map(int, match.groups()))
        raise NoLine("none")

    def put(self, many, rows):
        """Rows (a, b, chance), put in order but for alike ties."""
        rows = sorted(rows, key=lambda row: row[:2])
        self.states.append(((many, tuple(row[:2] for row in rows)), tuple(row[2] for row in rows)))
        return "ok"

    def rows(self):
        (many, ties), chances = self.states[-1]
        return many, [tie + (chance,) for tie, chance in zip(ties, chances)]

    def check_chance(self, top, bottom):
        if not 1 <= bottom <= 1000 or top > bottom:
            raise NoChance("none")
        if any(top % k == 0 and bottom % k == 0 for k in range(2, bottom + 1)):
            raise NoChance("none")

    def check_two(self, a, b):
        if a == b or max(a, b) >= self.states[-1][0][0]:
            raise NoPlace("none")

    def check_number(self, number):
        if number >= len(self.states[-1][1]):
            raise NoTie("none")

    def places(self, many):
        if not 1 <= many <= 6:
            raise NoLine("none")
        return self.put(many, [])

    def tie(self, a, b, top, bottom):
        self.check_two(a, b)
        self.check_chance(top, bottom)
        many, rows = self.rows()
        if len(rows) == 8:
            raise TooMany("none")
        return self.put(many, rows + [(min(a, b), max(a, b), (top, bottom))])

    def chance(self, number, top, bottom):
        self.check_number(number)
        self.check_chance(top, bottom)
        many, rows = self.rows()
        rows[number] = rows[number][:2] + ((top, bottom),)
        return self.put(many, rows)

    def cut(self, number):
        self.check_number(number)
        many, rows = self.rows()
        del rows[number]
        return self.put(many, rows)

    def back(self):
        if len(self.states) == 1:
            raise NoDeed("none")
        self.states.pop()
        return "ok"

    def web(self):
        many, rows = self.rows()
        words = [f"{many}:"] + [f"{a}-{b}={top}/{bottom}" for a, b, (top, bottom) in rows]
        return " ".join(words)

    def share(self, places):
        top, bottom = as_tuple(summed_share(*self.states[-1], places))
        return f"{top}/{bottom}"

    def all(self):
        return self.share(tuple(range(self.states[-1][0][0])))

    def two(self, a, b):
        self.check_two(a, b)
        return self.share((min(a, b), max(a, b)))

    def trees(self):
        web = self.states[-1][0]
        return str(len(least_by_parts(walked_good(web, tuple(range(web[0]))))))

    def bounds(self):
        web, chances = self.states[-1]
        found = bounds(web, chances, tuple(range(web[0])))
        return " ".join(f"{top}/{bottom}" for top, bottom in found)


def lines_by(chooser, many):
    """So many lines, most of them right."""
    words = ("tie",) * 20 + ("chance",) * 3 + (
        "cut", "cut", "places", "back", "back", "web", "all", "all", "two", "two", "two", "trees",
        "bounds", "bounds", "wrong")
    chances = ("1/2", "2/3", "1/1000", "0/1", "1/1", "999/1000", "3/7", "2/4", "1/0", "3/2", "1/1001")

    def place():
        return chooser.choice((0, 1, 2, 3, 4, 5, 6, 0, 1, 2))

    for _ in range(many):
        word = chooser.choice(words)
        if word == "tie":
            yield f"tie {place()} {place()} {chooser.choice(chances)}"
        elif word == "chance":
            yield f"chance {chooser.randrange(9)} {chooser.choice(chances)}"
        elif word == "cut":
            yield f"cut {chooser.randrange(9)}"
        elif word == "places":
            yield f"places {chooser.choice((3, 4, 5, 6, 6, 0, 7, 1))}"
        elif word == "two":
            yield f"two {place()} {place()}"
        elif word == "wrong":
            yield chooser.choice(("", "web ", "tie 0 1", "cut", "back 1", "cut 01", "all all"))
        else:
            yield word


def said(desk, line):
    """What the desk says, or the class of its refusal."""
    try:
        return desk.say(line)
    except ChanceError as refusal:
        return type(refusal)


class AtFirst(Asking):
    def test_questions(self):
        desk = Desk()
        self.assertEqual(desk.say("web"), "1:")
        self.assertEqual(desk.say("all"), "1/1")
        self.assertEqual(desk.say("trees"), "1")
        self.assertEqual(desk.say("bounds"), "0/1 1/1")
        self.assertRefused(NoPlace, desk.say, "two 0 1")
        self.assertRefused(NoDeed, desk.say, "back")
        self.assertRefused(NoTie, desk.say, "cut 0")
        self.assertRefused(NoTie, desk.say, "chance 0 1/2")
        self.assertRefused(NoPlace, desk.say, "tie 0 1 1/2")


class Deeds(Asking):
    def test_places(self):
        desk = Desk()
        for many in range(1, 7):
            self.assertEqual(desk.say(f"places {many}"), "ok")
            self.assertEqual(desk.say("web"), f"{many}:")
        desk = told("places 3", "tie 0 1 1/2", "places 3")
        self.assertEqual(desk.say("web"), "3:")

    def test_places_that_are_none(self):
        desk = told("places 2", "tie 0 1 1/2")
        for many in ("0", "7", "8", "10", "1000", "9999", "06", "-1", "+1", "1.", "six"):
            self.assertRefused(NoLine, desk.say, f"places {many}")
        self.assertEqual(desk.say("web"), "2: 0-1=1/2")

    def test_ties(self):
        desk = told("places 3", "tie 1 2 2/3", "tie 0 1 1/2")
        self.assertEqual(desk.say("web"), "3: 0-1=1/2 1-2=2/3")

    def test_a_greater_than_b(self):
        desk = told("places 6", "tie 5 0 1/2", "tie 4 2 1/3", "tie 1 0 1/1")
        self.assertEqual(desk.say("web"), "6: 0-1=1/1 0-5=1/2 2-4=1/3")

    def test_alike_ties_the_new_one_behind(self):
        desk = told("places 3", "tie 0 1 1/2", "tie 1 2 1/3", "tie 1 0 1/5", "tie 0 1 1/7")
        self.assertEqual(desk.say("web"), "3: 0-1=1/2 0-1=1/5 0-1=1/7 1-2=1/3")
        self.assertEqual(desk.say("tie 2 1 1/11"), "ok")
        self.assertEqual(desk.say("web"), "3: 0-1=1/2 0-1=1/5 0-1=1/7 1-2=1/3 1-2=1/11")

    def test_eight_ties(self):
        desk = told("places 2", *["tie 0 1 1/2"] * 8)
        self.assertEqual(desk.say("web"), "2:" + " 0-1=1/2" * 8)
        self.assertEqual(desk.say("all"), "255/256")
        self.assertRefused(TooMany, desk.say, "tie 0 1 1/2")
        self.assertEqual(desk.say("cut 7"), "ok")
        self.assertEqual(desk.say("tie 0 1 1/3"), "ok")
        self.assertEqual(desk.say("web"), "2:" + " 0-1=1/2" * 7 + " 0-1=1/3")

    def test_chance(self):
        desk = told("places 3", "tie 0 1 1/2", "tie 1 2 1/3", "chance 1 999/1000", "chance 0 0/1")
        self.assertEqual(desk.say("web"), "3: 0-1=0/1 1-2=999/1000")
        self.assertEqual(desk.say("chance 0 1/1"), "ok")
        self.assertEqual(desk.say("web"), "3: 0-1=1/1 1-2=999/1000")

    def test_chance_and_cut_of_alike_ties(self):
        desk = told("places 2", "tie 0 1 1/2", "tie 0 1 1/3", "tie 0 1 1/5")
        self.assertEqual(desk.say("chance 1 1/7"), "ok")
        self.assertEqual(desk.say("web"), "2: 0-1=1/2 0-1=1/7 0-1=1/5")
        self.assertEqual(desk.say("cut 1"), "ok")
        self.assertEqual(desk.say("web"), "2: 0-1=1/2 0-1=1/5")
        self.assertEqual(desk.say("cut 0"), "ok")
        self.assertEqual(desk.say("web"), "2: 0-1=1/5")
        self.assertEqual(desk.say("cut 0"), "ok")
        self.assertEqual(desk.say("web"), "2:")
        self.assertRefused(NoTie, desk.say, "cut 0")

    def test_back_over_each_deed(self):
        for deed in ("places 4", "places 3", "tie 0 2 1/5", "chance 0 1/7", "chance 0 1/2",
                     "cut 1", "cut 0"):
            desk = told("places 3", "tie 0 1 1/2", "tie 1 2 1/3")
            self.assertEqual(desk.say(deed), "ok")
            self.assertEqual(desk.say("back"), "ok")
            self.assertEqual(desk.say("web"), "3: 0-1=1/2 1-2=1/3", deed)

    def test_back_several_times_then_no_deed(self):
        deeds = ("places 3", "tie 0 1 1/2", "tie 2 1 1/3", "chance 0 3/4", "cut 1", "places 2",
                 "places 2", "tie 1 0 1/1", "chance 0 1/1")
        desk = Desk()
        webs = []
        for deed in deeds:
            webs.append(desk.say("web"))
            self.assertEqual(desk.say(deed), "ok")
        for web in webs[::-1]:
            self.assertEqual(desk.say("back"), "ok")
            self.assertEqual(desk.say("web"), web)
        for _ in range(3):
            self.assertRefused(NoDeed, desk.say, "back")
            self.assertEqual(desk.say("web"), "1:")

    def test_back_is_not_undone(self):
        desk = told("places 2", "tie 0 1 1/2", "back", "back")
        self.assertEqual(desk.say("web"), "1:")
        self.assertRefused(NoDeed, desk.say, "back")

    def test_a_deed_after_back(self):
        desk = told("places 3", "tie 0 1 1/2", "back", "tie 1 2 1/3", "tie 0 2 1/5", "back")
        self.assertEqual(desk.say("web"), "3: 1-2=1/3")
        self.assertEqual(desk.say("back"), "ok")
        self.assertEqual(desk.say("web"), "3:")

    def test_questions_and_refusals_are_no_deeds(self):
        desk = told("places 3", "tie 0 1 1/2")
        for line in QUESTIONS[:5]:
            desk.say(line)
        for line in ("tie 0 0 1/2", "cut 1", "chance 0 2/4", "no", ""):
            self.assertIn(said(desk, line), (NoPlace, NoTie, NoChance, NoLine))
        self.assertEqual(desk.say("back"), "ok")
        self.assertEqual(desk.say("web"), "3:")

    def test_a_deed_that_changes_nothing_stands_too(self):
        desk = told("places 1", "places 1")
        self.assertEqual([said(desk, "back") for _ in range(3)], ["ok", "ok", NoDeed])


class Questions(Asking):
    def test_shares(self):
        desk = told("places 3", "tie 0 1 1/2", "tie 1 2 2/3")
        self.assertEqual(desk.say("all"), "1/3")
        self.assertEqual(desk.say("two 0 1"), "1/2")
        self.assertEqual(desk.say("two 1 0"), "1/2")
        self.assertEqual(desk.say("two 2 0"), "1/3")
        self.assertEqual(told("places 2").say("all"), "0/1")
        self.assertEqual(told("places 2", "tie 0 1 1/1").say("all"), "1/1")
        self.assertEqual(told("places 6").say("two 5 0"), "0/1")

    def test_great_bottoms(self):
        desk = told("places 2", *["tie 0 1 1/1000"] * 8)
        self.assertEqual(desk.say("all"), f"{10 ** 24 - 999 ** 8}/{10 ** 24}")

    def test_trees(self):
        self.assertEqual(told("places 2").say("trees"), "0")
        desk = told("places 3", "tie 0 1 1/2", "tie 1 2 1/2", "tie 0 2 0/1")
        self.assertEqual(desk.say("trees"), "3")
        self.assertEqual(told("places 2", *["tie 0 1 1/2"] * 8).say("trees"), "8")
        desk = told("places 4", "tie 0 1 1/2", "tie 1 2 1/2", "tie 2 3 1/2", "tie 0 3 1/2",
                    "tie 0 2 1/2", "tie 1 3 1/2")
        self.assertEqual(desk.say("trees"), "16")

    def test_bounds(self):
        self.assertEqual(told("places 2").say("bounds"), "0/1 1/1")
        desk = told("places 3", "tie 0 1 1/2", "tie 0 1 1/3", "tie 1 2 2/3")
        self.assertEqual(desk.say("bounds"), "1/3 4/9")

    def test_the_web_can_be_read_again(self):
        desk = told("places 4", "tie 3 0 1/2", "tie 0 3 1/3", "tie 1 2 999/1000")
        web, chances = read_web(desk.say("web"))
        self.assertEqual(web, (4, ((0, 3), (0, 3), (1, 2))))
        self.assertEqual(chances, ((1, 2), (1, 3), (999, 1000)))
        self.assertEqual(web_text(web, chances_put(chances, 0, (1, 1))),
                         told("places 4", "tie 3 0 1/2", "tie 0 3 1/3", "tie 1 2 999/1000",
                              "chance 0 1/1").say("web"))

    def test_kinds_and_the_same_answer(self):
        desk = told("places 3", "tie 0 1 1/2")
        for line in QUESTIONS:
            self.assertIs(type(desk.say(line)), str)
            self.assertEqual(desk.say(line), desk.say(line))


class Refused(Asking):
    """Each refusal in its order; behind it nothing has changed."""

    def assertStays(self, desk, refusal, *lines):
        before = answers(desk)
        for line in lines:
            self.assertRefused(refusal, desk.say, line)
            self.assertEqual(answers(desk), before, line)

    def test_tie(self):
        desk = told("places 3", "tie 0 1 1/2")
        self.assertStays(desk, NoPlace, "tie 0 3 1/2", "tie 3 0 1/2", "tie 0 0 1/2", "tie 2 2 1/2",
                         "tie 3 3 1/2", "tie 9999 1 1/2", "tie 1 9999 1/2", "tie 0 3 2/4",
                         "tie 0 0 1/0", "tie 3 4 0/0")
        self.assertStays(desk, NoChance, "tie 0 1 2/4", "tie 0 1 0/2", "tie 0 1 2/2", "tie 1 0 1/0",
                         "tie 0 1 0/0", "tie 0 1 3/2", "tie 0 1 1/1001", "tie 0 1 9999/9999",
                         "tie 2 1 1/9999")

    def test_tie_where_there_are_eight(self):
        desk = told("places 3", *["tie 0 1 1/2"] * 8)
        self.assertStays(desk, TooMany, "tie 0 1 1/2", "tie 2 0 1/1", "tie 1 2 0/1")
        self.assertStays(desk, NoChance, "tie 0 1 2/4", "tie 0 1 1/0")
        self.assertStays(desk, NoPlace, "tie 0 3 1/2", "tie 1 1 2/4")
        self.assertEqual(said(desk, "back"), "ok")
        self.assertEqual(desk.say("web"), "3:" + " 0-1=1/2" * 7)

    def test_chance(self):
        desk = told("places 3", "tie 0 1 1/2", "tie 0 2 1/3")
        self.assertStays(desk, NoTie, "chance 2 1/2", "chance 8 1/2", "chance 9999 1/2",
                         "chance 2 2/4", "chance 9 1/0")
        self.assertStays(desk, NoChance, "chance 0 2/4", "chance 1 1/0", "chance 1 3/2",
                         "chance 0 1/1001", "chance 0 1000/1000")

    def test_cut(self):
        desk = told("places 3", "tie 0 1 1/2", "tie 0 2 1/3")
        self.assertStays(desk, NoTie, "cut 2", "cut 3", "cut 8", "cut 1000", "cut 9999")

    def test_two(self):
        desk = told("places 3", "tie 0 1 1/2")
        self.assertStays(desk, NoPlace, "two 0 3", "two 3 0", "two 0 0", "two 2 2", "two 9999 0",
                         "two 0 9999", "two 9999 9999")

    def test_back(self):
        desk = told("places 3", "back")
        self.assertStays(desk, NoDeed, "back", "back")


class NoLines(Asking):
    RIGHT = ("places 3", "tie 0 1 1/2", "chance 0 1/3", "cut 0", "back", "web", "all", "two 0 1",
             "trees", "bounds")

    def assertNone(self, *lines):
        desk = told("places 3", "tie 0 1 1/5", "tie 1 2 1/7")
        for line in lines:
            self.assertRefused(NoLine, desk.say, line)
        self.assertEqual(desk.say("web"), "3: 0-1=1/5 1-2=1/7")
        self.assertEqual(desk.say("back"), "ok")
        self.assertEqual(desk.say("web"), "3: 0-1=1/5")

    def test_the_right_lines(self):
        for line in self.RIGHT:
            desk = told("places 3", "tie 0 1 1/5", "tie 1 2 1/7")
            self.assertIs(type(desk.say(line)), str)

    def test_empty(self):
        self.assertNone("", " ", "  ", "\n", "\t")

    def test_blanks_at_either_end_or_two_between(self):
        for line in self.RIGHT:
            self.assertNone(" " + line, line + " ", "  " + line, line + "  ")
            if " " in line:
                self.assertNone(line.replace(" ", "  "), line.replace(" ", "  ", 1),
                                line.replace(" ", ""), line.replace(" ", "", 1))
            if "/" in line:
                self.assertNone(line.replace("/", " / "), line.replace("/", "/ "),
                                line.replace("/", " /"), line.replace("/", " "))

    def test_other_blanks_and_line_ends(self):
        for line in self.RIGHT:
            for blank in ("\t", "\n", "\r", "\u00a0", "\u2003", "\x0b", "\x1f"):
                self.assertNone(blank + line, line + blank)
                if " " in line:
                    self.assertNone(line.replace(" ", blank), line.replace(" ", " " + blank, 1))
            self.assertNone(line + "\r\n", line + "\n\n", line + "\n" + line)

    def test_words_lacking_or_more(self):
        for line in self.RIGHT:
            self.assertNone(line + " 0", line + " 1/2", line + " " + line, line + " ok")
            if " " in line:
                self.assertNone(line.rpartition(" ")[0], line.partition(" ")[0],
                                line.partition(" ")[2])

    def test_other_words(self):
        for line in self.RIGHT:
            self.assertNone(line.upper(), line.title(), "x" + line, line.replace(line[1], "", 1))
        self.assertNone("ok", "help", "place 3", "ties 0 1 1/2", "chances 0 1/2", "undo", "number",
                        "ratio", "NoLine", "three 0 1 2", "quit", "tree", "bound")

    def test_parts_of_another_form(self):
        self.assertNone("places 1/2", "cut 1/2", "tie 0 1 1", "tie 0 1/2 1", "tie 1/2 0 1",
                        "chance 0 1", "chance 1/2 0", "two 0 1/2", "tie 0 1 1/2/3", "tie 0 1 /",
                        "tie 0 1 1/", "tie 0 1 /2", "tie 0 1 1//2", "tie 0 1 1:2", "tie 0 1 0.5",
                        "chance 0 1-2", "tie 0-1 1/2", "tie 0-1=1/2", "cut (0)", "cut None")

    def test_numbers_of_five_figures(self):
        self.assertNone("places 10000", "tie 10000 1 1/2", "tie 0 10000 1/2", "tie 0 1 10000/1",
                        "tie 0 1 1/10000", "chance 10000 1/2", "chance 0 1/10000", "cut 10000",
                        "two 10000 0", "two 0 10000", "chance 0 12345/12346")

    def test_long_rows_of_figures(self):
        for many in (30, 5000, 100000):
            row = "1" * many
            self.assertNone(f"places {row}", f"tie {row} 1 1/2", f"tie 0 1 {row}/2", f"cut {row}",
                            f"tie 0 1 1/{row}", f"chance {row} 1/2", f"two 0 {row}", row)

    def test_a_nought_ahead(self):
        self.assertNone("places 03", "tie 00 1 1/2", "tie 0 01 1/2", "tie 0 1 01/2", "tie 0 1 1/02",
                        "tie 0 1 00/1", "chance 00 1/2", "chance 0 1/03", "cut 00", "two 0 01",
                        "two 00 1", "cut 0000", "places 0003")

    def test_signs(self):
        self.assertNone("places +3", "places -3", "tie -0 1 1/2", "tie 0 +1 1/2", "tie 0 1 +1/2",
                        "tie 0 1 1/-2", "tie 0 1 -1/2", "chance -1 1/2", "cut -1", "cut +0",
                        "two -1 0", "two 0 -1", "cut 1_0", "cut 0x0", "cut 0.0", "cut 1e0")

    def test_other_figures(self):
        for one in ("\u0661", "\uff11", "\u00b9", "\u2160", "\u0967", "\U0001d7cf"):
            self.assertNone(f"places {one}", f"tie 0 {one} 1/2", f"tie 0 1 {one}/2",
                            f"tie 0 1 1/{one}", f"chance {one} 1/2", f"cut {one}", f"two 0 {one}")

    def test_other_things_than_texts(self):
        things = [b"web", bytearray(b"web"), ["web"], ("web",), ["cut", "0"], ("cut", 0),
                  {"web": "web"}, 0, None, True, Touchy()]
        plain = [thing for thing in plain_things() if thing != "web"]
        self.assertNone(*things, *plain, *strange_things())

    def test_nothing_that_is_handed_in_is_changed(self):
        desk = Desk()
        for thing in ([["web"]], {"web": ["web"]}, ("web", [])):
            ahead = copy.deepcopy(thing)
            self.assertRefused(NoLine, desk.say, thing)
            self.assertEqual(thing, ahead)


class ByTheModel(Asking):
    def test_long_talks(self):
        met = set()
        for seed in range(60):
            desk, model = Desk(), Model()
            for line in lines_by(random.Random(seed), 100):
                due = said(model, line)
                met.add(due)
                self.assertEqual(said(desk, line), due, (seed, line))
                self.assertEqual(desk.say("web"), model.say("web"), (seed, line))
        self.assertLessEqual({NoLine, NoPlace, NoChance, NoTie, TooMany, NoDeed, "ok"}, met)


class DeedsThatStand(Asking):
    def test_a_desk_hangs_on_the_deeds_that_stand_alone(self):
        for seed in range(30):
            desk, standing = Desk(), []
            for line in lines_by(random.Random(1000 + seed), 60):
                if said(desk, line) == "ok":
                    if line == "back":
                        standing.pop()
                    else:
                        standing.append(line)
            fresh = told(*standing)
            self.assertEqual(answers(fresh), answers(desk), seed)
            # They go back alike, too.
            for _ in range(len(standing) + 1):
                self.assertEqual(said(fresh, "back"), said(desk, "back"))
                self.assertEqual(fresh.say("web"), desk.say("web"))

    def test_desks_beside_one_another(self):
        one, two, three = Desk(), Desk(), Desk()
        for desk, many in ((one, 2), (two, 3)):
            desk.say(f"places {many}")
        one.say("tie 0 1 1/2")
        two.say("tie 1 2 1/3")
        self.assertEqual([desk.say("web") for desk in (one, two, three)],
                         ["2: 0-1=1/2", "3: 1-2=1/3", "1:"])
        self.assertRefused(NoDeed, three.say, "back")
        two.say("back")
        three.say("places 6")
        self.assertEqual([desk.say("web") for desk in (one, two, three)],
                         ["2: 0-1=1/2", "3:", "6:"])
        one.say("cut 0")
        self.assertEqual([desk.say("web") for desk in (one, two, three)], ["2:", "3:", "6:"])
        self.assertEqual(Desk().say("web"), "1:")

    def test_many_desks_with_talks_of_their_own(self):
        desks = [Desk() for _ in range(3)]
        models = [Model() for _ in range(3)]
        talks = [list(lines_by(random.Random(50 + seed), 60)) for seed in range(3)]
        for lines in zip(*talks):
            for desk, model, line in zip(desks, models, lines):
                self.assertEqual(said(desk, line), said(model, line), line)
        for desk, model in zip(desks, models):
            self.assertEqual(desk.say("web"), model.say("web"))


if __name__ == "__main__":
    unittest.main()
