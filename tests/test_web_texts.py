"""Tests of layerink.language; test_language.py looks at the rules of LANGUAGE.md."""

import functools
import itertools
import random
import re
import unittest

from layerink.errors import BadText, BadWeb, InkError
from layerink.language import read_web, web_text
from layerings import random_arrows, random_sayings, roomy_webs, wild_webs
from samples import BAD_WEBS, GOOD_WEBS, NAMES, full_web, web_of

NAME = "[a-z]{1,6}"
GROUP = rf"(?:{NAME}|\( *{NAME} *(?:, *{NAME} *)*\))"
LINK = "(?:>[1-3]?(?:x[1-9])?|=|<-?[0-9])"
STATEMENT = rf"{GROUP}(?: *{LINK} *{GROUP})*"
TEXT = re.compile(rf" *(?:{STATEMENT}(?: *; *{STATEMENT})* *)?")

# Each text that can go on goes on by one of these.
ENDS = ["", "a", ")", "a)", "1a"]

BENT_SIGNS = "aqxz(),;>=< -0139\n\t.X\u00e4[]"

SOUND = [
    "", "   ", "a", " a ", "a;b", "a ; b;c", "(a)", "( a , b )", "a>b", "a > b > c", "(a,b)>(c,d)=e",
    "a>2b", "a>x3b", "a>2x5b", "a>xb", "a>x", "a>3x", "a > x > x", "a<0b", "a<-3b", "a<9(b,c)", "a=b",
    "abcdef>ghijkl", "abcdef >2x9 (ghijkl, x) <-9 y; z", "(x,xx)>x2(x,xxx)",
]


@functools.cache
def can_go_on(start):
    return any(TEXT.fullmatch(start + end) for end in ENDS)


def at_by_words(text):
    """The place of the first sign at which no text can go on, or the length; None for a sound text."""
    for place in range(len(text)):
        if not can_go_on(text[:place + 1]):
            return place
    return None if TEXT.fullmatch(text) else len(text)


def arrow(one, other, least=1, weight=1):
    return (one, other, least, weight)


def names_of(count):
    return "(" + ",".join(NAMES[:count]) + ")"


class ReadWeb(unittest.TestCase):
    def check(self, text, names, arrows=(), sayings=()):
        self.assertEqual(read_web(text), (tuple(names.split()), tuple(arrows), tuple(sayings)))

    def refuse(self, text, at):
        with self.assertRaises(BadText) as caught:
            read_web(text)
        self.assertEqual(caught.exception.at, at, text)
        self.assertIs(type(caught.exception.at), int)
        self.assertIsInstance(caught.exception, InkError)

    def test_no_boxes(self):
        for text in ["", " ", "      "]:
            self.assertEqual(read_web(text), ((), (), ()))

    def test_boxes_by_their_first_naming(self):
        self.check("a", "a")
        self.check("b; a; b", "b a")
        self.check("b > a; c > b; (d, a, c)", "b a c d", [arrow(0, 1), arrow(2, 0)])

    def test_arrows(self):
        self.check("a>b", "a b", [arrow(0, 1)])
        self.check("a>3b", "a b", [arrow(0, 1, 3)])
        self.check("a>x3b", "a b", [arrow(0, 1, 1, 3)])
        self.check("a>2x5b", "a b", [arrow(0, 1, 2, 5)])
        self.check("a>1x1b", "a b", [arrow(0, 1)])
        self.check("a > a", "a", [arrow(0, 0)])
        self.check("a > b > c >2 a", "a b c", [arrow(0, 1), arrow(1, 2), arrow(2, 0, 2)])

    def test_an_x_that_begins_a_name(self):
        self.check("a>x", "a x", [arrow(0, 1)])
        self.check("a>xb", "a xb", [arrow(0, 1)])
        self.check("a>2x", "a x", [arrow(0, 1, 2)])
        self.check("a>2xx", "a xx", [arrow(0, 1, 2)])
        self.check("a>2x;b", "a x b", [arrow(0, 1, 2)])
        self.check("a>x>x", "a x", [arrow(0, 1), arrow(1, 1)])
        self.check("a>x9x", "a x", [arrow(0, 1, 1, 9)])
        self.check("a > x > b", "a x b", [arrow(0, 1), arrow(1, 2)])
        self.check("a>x =b", "a x b", [arrow(0, 1)], [(1, 2, 0), (2, 1, 0)])
        self.check("x>x2x", "x", [arrow(0, 0, 1, 2)])
        self.refuse("a>x0", 3)
        self.refuse("a> x3", 4)
        self.refuse("a>2x0b", 4)
        self.refuse("a>2 x3b", 5)

    def test_level(self):
        self.check("a=b", "a b", [], [(0, 1, 0), (1, 0, 0)])
        self.check("(a,b) = c", "a b c", [], [(0, 2, 0), (2, 0, 0), (1, 2, 0), (2, 1, 0)])

    def test_sayings(self):
        self.check("a<3b", "a b", [], [(0, 1, 3)])
        self.check("a<-3b", "a b", [], [(0, 1, -3)])
        self.check("a<0b <-0 c", "a b c", [], [(0, 1, 0), (1, 2, 0)])
        self.check("b <9 a <-9 c", "b a c", [], [(0, 1, 9), (1, 2, -9)])

    def test_groups(self):
        self.check("(a)", "a")
        self.check("(a,b)>(c,d)", "a b c d", [arrow(0, 2), arrow(0, 3), arrow(1, 2), arrow(1, 3)])
        self.check("(b,a)>x2(a,b)", "b a", [arrow(*pair, 1, 2) for pair in [(0, 1), (0, 0), (1, 1), (1, 0)]])
        self.check("a>(b,c)<1d", "a b c d", [arrow(0, 1), arrow(0, 2)], [(1, 3, 1), (2, 3, 1)])

    def test_order_of_links(self):
        self.check("a > b = c > a; b <2 a > c", "a b c",
                   [arrow(0, 1), arrow(2, 0), arrow(0, 2)], [(1, 2, 0), (2, 1, 0), (1, 0, 2)])

    def test_blanks(self):
        self.check("  ( a ,b , c )  >2x3  d  ;  e=a  ", "a b c d e",
                   [arrow(box, 3, 2, 3) for box in range(3)], [(4, 0, 0), (0, 4, 0)])
        self.refuse("ab c", 3)
        self.refuse("a> 2b", 3)
        self.refuse("a>2x 5b", 5)
        self.refuse("a< 3b", 2)
        self.refuse("a<- 3b", 3)
        self.refuse("a\nb", 1)
        self.refuse("a;\tb", 2)

    def test_names_of_seven_letters(self):
        self.refuse("abcdefg", 6)
        self.refuse("abcdefgh > ", 6)
        self.refuse("a>xabcdef", 8)
        self.refuse("(a, abcdefg", 10)

    def test_ended_too_early(self):
        for text in ["a>", "a> ", "a;", "a ;  ", "(", "( ", "(a", "(a ", "(a,", "(a, ", "a<", "a<-", "a<3", "a=", "a>2", "a>x3"]:
            self.refuse(text, len(text))

    def test_no_text_can_go_on(self):
        for text, at in [
            (";", 0), ("  ;a", 2), (">a", 0), ("a>>b", 2), ("a>4b", 2), ("a>0b", 2), ("a>12b", 3), ("a<10b", 3),
            ("a<--1b", 3), ("a<xb", 2), ("()", 1), ("( )", 2), ("(a,)", 3), ("(a b)", 3), ("(a;b)", 2), ("((a))", 1),
            ("(a>b)", 2), ("a)", 1), ("a,b", 1), ("a;;b", 2), ("a b", 2), ("A", 0), ("a1", 1), ("a==b", 2), ("a=2b", 2),
            ("a-b", 1), ("a>-1b", 2), ("a>x3x4", 5), ("(a)(b)", 3), ("(a)b", 3), ("a(b)", 1), ("\u00e4", 0), ("a>\u00b2b", 2),
            ("a<\u0663b", 2),
        ]:
            self.refuse(text, at)
            self.assertEqual(at_by_words(text), at)

    def check_by_words(self, text):
        at = at_by_words(text)
        if at is not None:
            self.refuse(text, at)
            return
        try:
            web = read_web(text)
        except BadText as error:
            # Short texts break no bound but that of a box tied to itself.
            self.assertEqual(error.at, len(text))
            self.assertRegex(text, "[<=]")
        else:
            self.assertEqual(read_web(web_text(web)), web)

    def test_sound_texts(self):
        for text in SOUND:
            self.assertIsNone(at_by_words(text), text)
            self.check_by_words(text)
            read_web(text)

    def test_texts_bent_at_each_sign(self):
        for text in SOUND:
            for place in range(len(text) + 1):
                self.check_by_words(text[:place])
                self.check_by_words(text[:place] + text[place + 1:])
                for sign in BENT_SIGNS:
                    self.check_by_words(text[:place] + sign + text[place:])
                    self.check_by_words(text[:place] + sign + text[place + 1:])

    def test_short_texts(self):
        for length in range(5):
            for signs in itertools.product("ax(),;>=<-2 ", repeat=length):
                self.check_by_words("".join(signs))

    def test_wild_texts(self):
        source = random.Random(51)
        for _ in range(20000):
            parts = [source.choice(["a", "b", "xy", "(", ")", ",", ";", ">", ">2", ">x3", "x", "=", "<-1", "<", " ", "0"])
                     for _ in range(source.randint(1, 12))]
            self.check_by_words("".join(parts))

    def test_bounds(self):
        self.assertEqual(len(read_web(names_of(40))[0]), 40)
        self.assertEqual(len(read_web("(aa,ab)>" + names_of(40))[1]), 80)
        self.assertEqual(len(read_web("aa=(ab,ac,ad,ae,af,ag,ah,ai,aj,ak)")[2]), 20)
        for text in [
            names_of(41), names_of(41) + "  ", ";".join(NAMES[:41]), "(aa,ab)>" + names_of(40) + ";aa>aa",
            "a>" + ">".join("ab" * 41), "aa=(ab,ac,ad,ae,af,ag,ah,ai,aj,ak);aa<1ab", "a<1" + "<1".join("ba" * 11),
            "a=a", "a <3 a", "a<0a", "(a,b)=(c,a)", "a > b = b", " b <-9 b ", names_of(41) + ">" + names_of(41),
        ]:
            self.assertIsNone(at_by_words(text))
            self.refuse(text, len(text))

    def test_other_faults_go_ahead_of_bounds(self):
        self.refuse("a=a;A", 4)
        self.refuse(names_of(41) + ">", len(names_of(41)) + 1)
        self.refuse("a<1a<1a b", 8)

    def test_by_name_and_again(self):
        self.assertEqual(read_web(text="a > b"), read_web("a > b"))
        self.assertIs(type(read_web("a > b")), tuple)
        self.assertEqual([type(part) for part in read_web("a > b = c")], [tuple] * 3)
        self.assertEqual({type(thing) for part in read_web("a > b = c")[1:] for thing in part}, {tuple})


class WebText(unittest.TestCase):
    def test_no_boxes(self):
        self.assertEqual(web_text(((), (), ())), "")

    def test_parts(self):
        web = (("b", "a", "x"), ((0, 1, 1, 1), (1, 1, 2, 1), (1, 2, 1, 5), (2, 0, 3, 9)), ((0, 1, 2), (1, 2, -3), (2, 0, 0)))
        self.assertEqual(web_text(web), "b; a; x; b > a; a >2 a; a >x5 x; x >3x9 b; b <2 a; a <-3 x; x <0 b")
        self.assertEqual(read_web(web_text(web)), web)

    def test_boxes_alone(self):
        self.assertEqual(web_text(web_of(3, [])), "aa; ab; ac")

    def test_read_to_the_very_same(self):
        source = random.Random(52)
        webs = list(GOOD_WEBS.values()) + [web for web, _ in roomy_webs()] + list(wild_webs())
        for count in (20, 39, 40):
            webs.append((NAMES[:count], random_arrows(source, count, 80), random_sayings(source, count, 20)))
        webs.append(full_web())
        for web in webs:
            self.assertEqual(read_web(web_text(web)), web)
            self.assertEqual(web_text(web=web), web_text(web))

    def test_all_kinds_of_ties(self):
        for least, weight in itertools.product(range(1, 4), range(1, 10)):
            web = (("a", "x"), ((0, 1, least, weight), (1, 1, least, weight)), ())
            self.assertEqual(read_web(web_text(web)), web)
        for least in range(-9, 10):
            web = (("x", "a"), (), ((0, 1, least), (1, 0, -least)))
            self.assertEqual(read_web(web_text(web)), web)

    def test_bad_webs(self):
        for why, web in BAD_WEBS.items():
            with self.subTest(why), self.assertRaises(BadWeb):
                web_text(web)


if __name__ == "__main__":
    unittest.main()
