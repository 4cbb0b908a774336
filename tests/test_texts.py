import copy
import unittest

from tests.samples import (
    ALIKE, APART, EMPTY, FULL, GREAT, HALVES, LONE, PATH, PRIMES, TWINS, Asking, chances_of,
    nested, no_chances, no_webs, plain_things, small_webs, strange_things,
)
from tiechances.errors import NoChances, NoText, NoWeb
from tiechances.texts import read_web, web_text

TEXT = "3: 0-1=1/2 1-2=2/3"
WEB = (3, ((0, 1), (1, 2)))
CHANCES = ((1, 2), (2, 3))


def asked():
    """Webs with chances."""
    found = [(web, chances_of(web, at)) for at, web in enumerate(small_webs())]
    found.extend((web, chances_of(web, start)) for web in GREAT for start in range(8))
    return found + [(web, PRIMES[:len(web[1])]) for web in GREAT]


def written(web, chances):
    """The text, put together sign by sign."""
    found = str(web[0]) + ":"
    for tie, chance in zip(web[1], chances):
        found += " " + "-".join(map(str, tie)) + "=" + "/".join(map(str, chance))
    return found


class WebText(Asking):
    def test_ordinary(self):
        self.assertEqual(web_text(WEB, CHANCES), TEXT)
        self.assertEqual(web_text(TWINS, ((0, 1), (1, 1), (997, 1000))),
                         "3: 0-1=0/1 0-1=1/1 1-2=997/1000")

    def test_no_ties(self):
        for many in range(1, 7):
            self.assertEqual(web_text((many, ()), ()), f"{many}:")

    def test_eight_ties_and_bottoms_of_1000(self):
        self.assertEqual(web_text(ALIKE, ((1, 1000),) * 8), "2:" + " 0-1=1/1000" * 8)
        self.assertEqual(
            web_text(FULL, HALVES[8]),
            "6: 0-1=1/2 0-1=1/2 0-5=1/2 1-2=1/2 2-3=1/2 2-3=1/2 3-4=1/2 4-5=1/2")

    def test_all(self):
        for web, chances in asked():
            told = web_text(web, chances)
            self.assertEqual(told, written(web, chances))
            self.assertIs(type(told), str)

    def test_refusals(self):
        for web in (PATH, FULL):
            self.assertInOrder(web_text, (web, HALVES[len(web[1])]), (NoWeb, 0, no_webs()),
                               (NoChances, 1, no_chances(web)))
        self.assertRefused(NoChances, web_text, LONE, [])
        self.assertRefused(NoChances, web_text, EMPTY, ((1, 2),))


class ReadWeb(Asking):
    def test_ordinary(self):
        self.assertEqual(read_web(TEXT), (WEB, CHANCES))
        self.assertEqual(read_web("1:"), (LONE, ()))
        self.assertEqual(read_web("6:"), (EMPTY, ()))
        self.assertEqual(read_web("2: 0-1=0/1 0-1=1/1"), ((2, ((0, 1),) * 2), ((0, 1), (1, 1))))
        self.assertEqual(read_web("2: 0-1=999/1000"), ((2, ((0, 1),)), ((999, 1000),)))

    def test_each_text_read_again(self):
        for web, chances in asked():
            told = read_web(web_text(web, chances))
            self.assertEqual(told, (web, chances))
            self.assertEqual(web_text(*told), written(web, chances))

    def test_kinds(self):
        told = read_web(TEXT)
        web, chances = told
        parts = [told, web, chances, web[1]] + list(web[1]) + list(chances)
        self.assertEqual({type(part) for part in parts}, {tuple})
        numbers = [web[0]] + [number for pair in web[1] + chances for number in pair]
        self.assertEqual({type(number) for number in numbers}, {int})

    def test_the_same_text_has_the_same_answer(self):
        self.assertEqual(read_web(TEXT), read_web(TEXT))


class NotWritten(Asking):
    def assertNone(self, *texts):
        for text in texts:
            with self.subTest(text):
                self.assertRefused(NoText, read_web, text)

    def test_empty_and_halves(self):
        self.assertNone("", " ", ":", "1", "3", "::", "1::", ": 0-1=1/2", "0-1=1/2", "a", "web")
        for end in range(len(TEXT)):
            if TEXT[:end] not in ("3:", "3: 0-1=1/2"):
                self.assertNone(TEXT[:end])
            if end:
                self.assertNone(TEXT[end:])

    def test_a_sign_left_out(self):
        for at in range(len(TEXT)):
            self.assertNone(TEXT[:at] + TEXT[at + 1:])

    def test_a_blank_more(self):
        for at in range(len(TEXT) + 1):
            self.assertNone(TEXT[:at] + " " + TEXT[at:])
        self.assertNone("1: ", " 1:", "1 :", "6:  ")

    def test_another_sign_more(self):
        for sign in "\n\t\r\v\f\0+-_.,:;=/#x\u00a0\u2003\u2028\ufeff\x1c\x85":
            for at in range(len(TEXT) + 1):
                text = TEXT[:at] + sign + TEXT[at:]
                self.assertRefused(NoText, read_web, text)
            self.assertNone(sign + "1:", "1" + sign + ":", "1:" + sign)

    def test_other_blanks(self):
        for blank in ("", "  ", "\t", "\n", "\u00a0", "\u2003", "\x0b", ",", "_"):
            self.assertNone(TEXT.replace(" ", blank), TEXT.replace(" ", blank, 1))

    def test_a_line_end_behind(self):
        self.assertNone("1:\n", TEXT + "\n", TEXT + "\r\n", TEXT + "\r", "\n" + TEXT)

    def test_a_nought_ahead(self):
        for at, sign in enumerate(TEXT):
            if sign.isdigit():
                self.assertNone(TEXT[:at] + "0" + TEXT[at:], TEXT[:at] + "00" + TEXT[at:])
        self.assertNone("01:", "00:", "2: 00-1=1/2", "2: 0-1=00/1", "2: 0-1=0/01", "2: 0-1=01/2")

    def test_signs(self):
        self.assertNone("+1:", "-1:", "2: +0-1=1/2", "2: -0-1=1/2", "2: 0-+1=1/2", "2: 0--1=1/2",
                        "2: 0-1=+1/2", "2: 0-1=-1/2", "2: 0-1=1/+2", "2: 0-1=1/-2", "2: 0-1=-0/1",
                        "2: 0-1=-1/-2", "1_0:", "2: 0-1=1/1_0", "2: 0-1=1.0/2", "2: 0-1=0x1/2")

    def test_other_figures(self):
        for one, two in (("\u0661", "\u0662"), ("\uff11", "\uff12"), ("\u00b9", "\u00b2"),
                         ("\u2160", "\u2161"), ("\u0967", "\u0968"), ("\U0001d7cf", "\U0001d7d0")):
            self.assertNone(one + ":", TEXT.replace("1", one), TEXT.replace("2", two),
                            f"2: 0-{one}=1/2", f"2: 0-1={one}/2", f"2: 0-1=1/{two}")

    def test_other_signs_between(self):
        for old, new in ((":", ";"), (":", "="), ("-", "="), ("-", "/"), ("-", "\u2013"),
                         ("=", "-"), ("=", "=="), ("=", ":"), ("/", "-"), ("/", "//"),
                         ("/", "\u2044"), ("-", "--"), (":", "::")):
            self.assertNone(TEXT.replace(old, new), TEXT.replace(old, new, 1))

    def test_parts_in_another_order(self):
        self.assertNone("3: 1/2=0-1", "0-1=1/2 3:", "3: 0-1=1/2 3: 1-2=2/3", "2: 1/2", "2: 0-1",
                        "2: 0=1/2", "2: 0-1=1", "2: 0-1-1=1/2", "2: 0-1=1/2/3", "2: 0-1=1/2=1/2")

    def test_ties_out_of_order(self):
        self.assertNone("3: 1-2=2/3 0-1=1/2", "3: 0-2=1/2 0-1=1/2", "3: 1-0=1/2",
                        "3: 0-1=1/2 2-1=2/3", "3: 0-0=1/2", "3: 1-1=1/2")

    def test_chances_that_are_none(self):
        for chance in ("2/4", "0/2", "2/2", "1000/1000", "3/2", "2/1", "1/0", "0/0", "1/1001",
                       "1000/1001", "1/9999", "1001/1000", "1/10000", "10000/1"):
            self.assertNone(f"2: 0-1={chance}", f"3: 0-1=1/2 1-2={chance}")

    def test_places_that_are_none(self):
        self.assertNone("0:", "7:", "10:", "1000:", "9999:", "99999:", "1: 0-1=1/2", "2: 0-2=1/2",
                        "3: 2-3=1/2", "6: 0-6=1/2", "6: 5-10=1/2", "6: 0-1000=1/2")

    def test_nine_ties(self):
        self.assertEqual(read_web("2:" + " 0-1=1/2" * 8), (ALIKE, HALVES[8]))
        self.assertNone("2:" + " 0-1=1/2" * 9, "2:" + " 0-1=1/2" * 1000)

    def test_long_rows_of_figures(self):
        for many in (5, 30, 5000, 100000):
            for figure in "019":
                row = figure * many
                self.assertNone(row, row + ":", f"2: {row}-1=1/2", f"2: 0-{row}=1/2",
                                f"2: 0-1={row}/2", f"2: 0-1=1/{row}")

    def test_other_things_than_texts(self):
        texts = [b"1:", bytearray(b"1:"), ["1:"], ("1:",), {"1:": "1:"}, (LONE, ()), LONE, [TEXT],
                 list(TEXT), tuple(TEXT), 1, None, True]
        for thing in texts + plain_things() + strange_things():
            self.assertRefused(NoText, read_web, thing)

    def test_deep_things(self):
        for wrap in (lambda thing: [thing], lambda thing: (thing,), lambda thing: {"1:": thing},
                     lambda thing: ["1:", thing]):
            for depth in (1, 2, 24, 30):
                thing = nested(wrap, depth)
                ahead = copy.deepcopy(thing)
                self.assertRefused(NoText, read_web, thing)
                self.assertEqual(thing, ahead)

    def test_a_refusal_changes_nothing(self):
        self.assertNone("3: 1-0=1/2")
        self.assertEqual(read_web(TEXT), (WEB, CHANCES))
        self.assertEqual(web_text(APART, HALVES[5]), written(APART, HALVES[5]))


if __name__ == "__main__":
    unittest.main()
