import copy
import itertools
import random
import time
import unittest

from layerink.board import Board, board_of
from layerink.chains import chains
from layerink.crossings import crossings
from layerink.errors import (
    BadDeed, BadLeast, BadName, BadWeb, BadWeight, Clash, Full, InkError, Missing, NoArrow, NoBox, NoSaying,
    NothingLeft, Same, Taken, Tied,
)
from layerink.language import read_web, web_text
from layerink.layers import layers, ties
from layerink.pictures import picture
from boards import COUNTS, REFUSALS, Model, some_deed, state_of
from layerings import is_clashing_ring, random_arrows, roomy_webs, wild_webs
from samples import BAD_WEBS, GOOD_WEBS, HUGE, NAMES


def board_with(*deeds):
    board = Board()
    for deed in deeds:
        board.do(deed)
    return board


def full_board():
    """Forty boxes, eighty arrows, twenty sayings."""
    board = board_with(*[("box", name) for name in NAMES[:40]])
    for number in range(80):
        board.arrow(NAMES[number % 39], NAMES[number % 39 + 1])
    for number in range(20):
        board.say(NAMES[number], NAMES[number + 1], 0)
    return board


class Refusing(unittest.TestCase):
    """Tests that look whether a refusal leaves all as it was."""

    def refuse(self, board, deed, error):
        before = state_of(board)
        twin = board.twin()
        with self.assertRaises(error) as caught:
            board.do(deed)
        self.assertIs(type(caught.exception), error)
        self.assertEqual(state_of(board), before)
        self.assertEqual(board, twin)
        return caught.exception


class Deeds(Refusing):
    def test_an_empty_board(self):
        board = Board()
        self.assertEqual(board.web(), ((), (), ()))
        self.assertEqual(board.numbers(), ([], []))
        self.assertIsNone(board.held())
        self.assertEqual(board.deeds(), [])
        self.assertEqual([board.layers(), board.rows(), board.moved(), board.turned()], [[], [], [], []])
        self.assertEqual(board.crossings(), 0)
        self.assertEqual(board.draw(), "")

    def test_boxes(self):
        board = Board()
        self.assertIsNone(board.box("b"))
        self.assertIsNone(board.do(("box", "abcdef")))
        self.assertEqual(board.web(), (("b", "abcdef"), (), ()))
        for name in ["", "abcdefg", "A", "a b", "a1", "\u00e4", "b\n", "["]:
            self.refuse(board, ("box", name), BadName)
        self.refuse(board, ("box", "b"), Taken)

    def test_no_more_than_forty_boxes(self):
        board = Board()
        for name in NAMES[:40]:
            board.box(name)
        self.refuse(board, ("box", "zz"), Full)
        self.refuse(board, ("box", NAMES[0]), Taken)
        self.refuse(board, ("box", "Z"), BadName)
        board.drop(NAMES[3])
        board.box("zz")
        self.assertEqual(board.web()[0], NAMES[:3] + NAMES[4:40] + ("zz",))
        self.refuse(board, ("box", "zzz"), Full)

    def test_drop(self):
        board = board_with(("box", "a"), ("box", "b"), ("box", "c"), ("arrow", "b", "c", 1, 1))
        self.refuse(board, ("drop", "b"), Tied)
        self.refuse(board, ("drop", "c"), Tied)
        self.refuse(board, ("drop", "d"), NoBox)
        self.refuse(board, ("drop", ""), NoBox)
        self.assertIsNone(board.drop("a"))
        self.assertEqual(board.web(), (("b", "c"), ((0, 1, 1, 1),), ()))
        board.cut(1)
        self.assertIsNone(board.do(("drop", "b")))
        self.assertEqual(board.web(), (("c",), (), ()))
        self.refuse(board, ("drop", "b"), NoBox)

    def test_boxes_of_loops_and_sayings_are_tied(self):
        board = board_with(("box", "a"), ("box", "b"), ("box", "c"), ("arrow", "a", "a", 1, 1), ("say", "b", "c", 0))
        for name in "abc":
            self.refuse(board, ("drop", name), Tied)

    def test_arrows(self):
        board = board_with(("box", "a"), ("box", "b"))
        self.assertEqual(board.arrow("a", "b"), 1)
        self.assertEqual(board.arrow("b", "a", 3), 2)
        self.assertEqual(board.arrow("a", "a", 2, 9), 3)
        self.assertEqual(board.do(("arrow", "a", "b", 1, 5)), 4)
        self.assertEqual(board.web()[1], ((0, 1, 1, 1), (1, 0, 3, 1), (0, 0, 2, 9), (0, 1, 1, 5)))
        self.assertEqual(board.numbers(), ([1, 2, 3, 4], []))
        self.refuse(board, ("arrow", "a", "c", 1, 1), NoBox)
        self.refuse(board, ("arrow", "c", "a", 1, 1), NoBox)
        for least in (0, 4, -1, HUGE, -HUGE):
            self.refuse(board, ("arrow", "a", "b", least, 1), BadLeast)
        for weight in (0, 10, -1, HUGE, -HUGE):
            self.refuse(board, ("arrow", "a", "b", 1, weight), BadWeight)

    def test_cut(self):
        board = board_with(("box", "a"), ("box", "b"))
        for least in (1, 2, 3):
            board.arrow("a", "b", least)
        self.assertIsNone(board.cut(2))
        self.assertEqual(board.web()[1], ((0, 1, 1, 1), (0, 1, 3, 1)))
        self.assertEqual(board.numbers(), ([1, 3], []))
        for number in (2, 0, 4, -1, HUGE):
            self.refuse(board, ("cut", number), NoArrow)
        self.assertEqual(board.arrow("b", "a"), 4)
        board.do(("cut", 4))
        self.assertEqual(board.arrow("b", "a"), 5)
        self.assertEqual(board.numbers(), ([1, 3, 5], []))

    def test_alter(self):
        board = board_with(("box", "a"), ("box", "b"))
        board.arrow("a", "b", 2, 3)
        board.arrow("b", "a", 3, 4)
        self.assertIsNone(board.alter(1, 3, 9))
        self.assertEqual(board.web()[1], ((0, 1, 3, 9), (1, 0, 3, 4)))
        board.alter(1, 2)
        self.assertEqual(board.web()[1][0], (0, 1, 2, 1))
        board.alter(2)
        self.assertEqual(board.web()[1][1], (1, 0, 1, 1))
        board.do(("alter", 2, 2, 2))
        self.assertEqual(board.numbers(), ([1, 2], []))
        for number in (0, 3, -1, HUGE):
            self.refuse(board, ("alter", number, 1, 1), NoArrow)
        for least in (0, 4, HUGE):
            self.refuse(board, ("alter", 1, least, 1), BadLeast)
        for weight in (0, 10, HUGE):
            self.refuse(board, ("alter", 1, 1, weight), BadWeight)

    def test_sayings(self):
        board = board_with(("box", "a"), ("box", "b"))
        self.assertEqual(board.say("a", "b"), 1)
        self.assertEqual(board.say("b", "a", -9), 2)
        self.assertEqual(board.do(("say", "a", "b", 9)), 3)
        self.assertEqual(board.web(), (("a", "b"), (), ((0, 1, 1), (1, 0, -9), (0, 1, 9))))
        self.refuse(board, ("say", "a", "a", 0), Same)
        self.refuse(board, ("say", "c", "a", 0), NoBox)
        self.refuse(board, ("say", "a", "c", 0), NoBox)
        for least in (-10, 10, HUGE, -HUGE):
            self.refuse(board, ("say", "a", "b", least), BadLeast)
        self.assertIsNone(board.unsay(2))
        self.assertEqual(board.numbers(), ([], [1, 3]))
        for number in (2, 0, 4, -1, HUGE):
            self.refuse(board, ("unsay", number), NoSaying)
        self.assertEqual(board.say("a", "b"), 4)
        self.assertEqual(board.arrow("a", "b"), 1)
        self.assertIsNone(board.do(("unsay", 3)))
        self.assertEqual(board.numbers(), ([1], [1, 4]))

    def test_full_only_beyond_each_bound(self):
        board = full_board()
        self.refuse(board, ("arrow", "aa", "ab", 1, 1), Full)
        self.refuse(board, ("say", "aa", "ab", 1), Full)
        board.cut(7)
        self.assertEqual(board.arrow("aa", "ab"), 81)
        self.refuse(board, ("arrow", "aa", "ab", 1, 1), Full)
        board.unsay(20)
        self.assertEqual(board.say("aa", "ab"), 21)
        self.refuse(board, ("say", "aa", "ab", 1), Full)
        board.alter(81, 3, 9)
        self.assertEqual(board.numbers(), ([*range(1, 7), *range(8, 82)], [*range(1, 20), 21]))

    def test_two_refusals_at_a_time(self):
        board = full_board()
        for deed, error in [
            (("box", "A"), BadName), (("box", NAMES[1]), Taken),
            (("arrow", "zz", "zy", 0, 0), NoBox), (("arrow", "aa", "zy", 0, 0), NoBox), (("arrow", "zz", "aa", 4, 1), NoBox),
            (("arrow", "aa", "aa", 0, 0), BadLeast), (("arrow", "aa", "aa", 1, 0), BadWeight),
            (("arrow", "aa", "aa", 1, 1), Full), (("alter", 0, 0, 0), NoArrow), (("alter", 1, 0, 0), BadLeast),
            (("say", "zz", "zz", 99), NoBox), (("say", "aa", "zz", 99), NoBox), (("say", "aa", "aa", 99), Same),
            (("say", "aa", "ab", 99), BadLeast), (("say", "aa", "aa", 0), Same), (("say", "aa", "ab", 0), Full),
        ]:
            self.refuse(board, deed, error)

    def test_no_deeds(self):
        board = board_with(("box", "a"))
        for deed in [(), ("",), ("boxes", "a"), ("Box", "b"), ("undo",), ("text",), ("twin",), ("load", "a"), ("a", "box")]:
            self.refuse(board, deed, BadDeed)

    def test_other_counts_of_things(self):
        board = board_with(("box", "a"), ("box", "b"), ("arrow", "a", "b", 1, 1), ("say", "a", "b", 1))
        things = {"box": ("c",), "drop": ("zz",), "arrow": ("zz", "b", 0, 0), "cut": (9,), "alter": (9, 0, 0),
                  "say": ("zz", "b", 99), "unsay": (9,), "hold": (), "free": ()}
        for kind, count in COUNTS.items():
            some = things[kind]
            self.assertEqual(len(some), count)
            for many in range(count + 4):
                if many != count:
                    self.refuse(board, (kind, *(some + (1, 1, 1, 1))[:many]), BadDeed)

    def test_classes(self):
        for error in (BadDeed, BadName, Taken, Full, Tied, BadLeast, BadWeight, Same, Clash):
            self.assertEqual(error.__bases__, (InkError,))
        for error in (NoBox, NoArrow, NoSaying):
            self.assertEqual(error.__bases__, (Missing,))
        self.assertEqual(NothingLeft.__bases__, (IndexError,))

    def test_methods_and_deeds_alike(self):
        one, other = Board(), Board()
        told = [
            one.box("a"), one.box(name="b"), one.arrow("a", "b"), one.arrow(one="b", other="a", least=2, weight=3),
            one.arrow("a", "b", weight=4), one.say("a", "b"), one.say(one="b", other="a", least=-5), one.alter(number=3),
            one.alter(2, weight=7), one.cut(number=2), one.unsay(number=2), one.hold(), one.box("c"), one.drop(name="c"), one.free(),
        ]
        deeds = [
            ("box", "a"), ("box", "b"), ("arrow", "a", "b", 1, 1), ("arrow", "b", "a", 2, 3), ("arrow", "a", "b", 1, 4),
            ("say", "a", "b", 1), ("say", "b", "a", -5), ("alter", 3, 1, 1), ("alter", 2, 1, 7), ("cut", 2), ("unsay", 2),
            ("hold",), ("box", "c"), ("drop", "c"), ("free",),
        ]
        self.assertEqual(one.deeds(), deeds)
        self.assertEqual([other.do(deed=deed) for deed in deeds], told)
        self.assertEqual(told, [None, None, 1, 2, 3, 1, 2] + [None] * 8)
        self.assertEqual(state_of(one), state_of(other))
        self.assertEqual(one, other)

    def test_methods_refuse_alike(self):
        board = board_with(("box", "a"))
        for ask, error in [
            (lambda: board.box("a"), Taken), (lambda: board.drop("b"), NoBox), (lambda: board.arrow("a", "b"), NoBox),
            (lambda: board.cut(1), NoArrow), (lambda: board.alter(1), NoArrow), (lambda: board.say("a", "a"), Same),
            (lambda: board.unsay(1), NoSaying),
        ]:
            self.assertRaises(error, ask)
        self.assertEqual(board.deeds(), [("box", "a")])


class Clashes(Refusing):
    def clashing(self):
        board = board_with(("box", "a"), ("box", "b"), ("box", "c"), ("arrow", "a", "b", 2, 1), ("hold",))
        board.say("b", "a", 0)
        return board

    def test_all_five(self):
        board = self.clashing()
        for held in (True, False):
            for ask in (board.layers, board.rows, board.crossings, board.moved, board.draw):
                with self.assertRaises(Clash) as caught:
                    ask()
                self.assertTrue(is_clashing_ring(ties(board.web()), caught.exception.ring))
                self.assertIs(type(caught.exception.ring), list)
            if held:
                board.free()

    def test_hold(self):
        board = self.clashing()
        error = self.refuse(board, ("hold",), Clash)
        self.assertTrue(is_clashing_ring(ties(board.web()), error.ring))
        self.assertRaises(Clash, board.hold)
        self.assertEqual(board.held(), [["a", "c"], [], ["b"]])

    def test_what_needs_no_layers(self):
        board = self.clashing()
        self.assertEqual(board.turned(), [])
        self.assertEqual(str(board), "a; b; c; a >2 b; b <0 a")
        self.assertEqual(board.web(), read_web(str(board)))
        self.assertEqual(board.numbers(), ([1], [1]))
        board.arrow("b", "a")
        self.assertEqual(board.turned(), [2])
        board.unsay(1)
        self.assertEqual(board.layers(), [0, 2, 0])


class Held(Refusing):
    def test_held(self):
        board = board_with(("box", "a"), ("box", "b"), ("box", "c"))
        board.arrow("a", "c", 3)
        self.assertIsNone(board.held())
        board.hold()
        self.assertEqual(board.held(), [["a", "b"], [], [], ["c"]])
        told = board.held()
        told[0].clear()
        told.pop()
        self.assertEqual(board.held(), [["a", "b"], [], [], ["c"]])
        board.free()
        self.assertIsNone(board.held())

    def test_hold_and_free_of_nothing(self):
        board = Board()
        board.free()
        board.hold()
        self.assertEqual(board.held(), [])
        self.assertNotEqual(board, Board())
        board.box("a")
        self.assertEqual(board.moved(), [])
        self.assertEqual(board.rows(), [[(0, 0)]])

    def test_held_pairs_stay(self):
        board = board_with(*[("box", name) for name in "abcd"])
        board.arrow("a", "c")
        board.arrow("b", "d")
        board.hold()
        self.assertEqual(board.held(), [["a", "b"], ["c", "d"]])
        board.cut(1)
        board.cut(2)
        board.arrow("a", "d")
        board.arrow("b", "c")
        self.assertEqual(board.rows(), [[(0, 0), (0, 1)], [(0, 2), (0, 3)]])
        self.assertEqual(board.crossings(), 1)
        self.assertEqual(board.draw().count("+"), 1)
        board.free()
        self.assertEqual(board.crossings(), 0)

    def test_the_order_of_the_held_picture_goes_first(self):
        board = board_with(*[("box", name) for name in "abcd"])
        for one, other in ["ad", "bc"]:
            board.arrow(one, other)
        rows = board.rows()
        board.hold()
        board.cut(1)
        board.cut(2)
        # Nothing crosses any more, so what stands as held stays, though not by places.
        board.say("a", "c", 1)
        board.say("a", "d", 1)
        self.assertEqual(board.layers(), [0, 0, 1, 1])
        self.assertEqual(board.rows(), rows)
        self.assertNotEqual(rows, [[(0, 0), (0, 1)], [(0, 2), (0, 3)]])

    def test_those_not_held_stand_behind(self):
        board = board_with(("box", "a"), ("box", "c"), ("hold",), ("box", "b"), ("drop", "a"), ("box", "d"), ("box", "a"))
        self.assertEqual(board.web()[0], ("c", "b", "d", "a"))
        self.assertEqual(board.held(), [["a", "c"]])
        self.assertEqual(board.rows(), [[(0, 3), (0, 0), (0, 1), (0, 2)]])

    def test_alike_in_two_rows(self):
        board = board_with(*[("box", name) for name in "abcd"])
        board.say("a", "c")
        board.say("a", "d")
        board.hold()
        self.assertEqual(board.held(), [["a", "b"], ["c", "d"]])
        board.unsay(1)
        board.unsay(2)
        # a and c stand alike, and so do b and d.
        self.assertEqual(board.rows(), [[(0, 0), (0, 2), (0, 1), (0, 3)]])
        self.assertEqual(board.moved(), [("c", 1, 0), ("d", 1, 0)])

    def test_moved(self):
        board = board_with(("box", "a"), ("box", "b"), ("box", "c"))
        board.arrow("a", "b")
        self.assertEqual(board.moved(), [])
        board.hold()
        self.assertEqual(board.moved(), [])
        board.say("b", "c", 2)
        self.assertEqual(board.moved(), [("c", 0, 3)])
        board.alter(1, 3)
        self.assertEqual(board.moved(), [("b", 1, 3), ("c", 0, 5)])
        board.box("d")
        board.arrow("a", "d")
        self.assertEqual(board.moved(), [("b", 1, 3), ("c", 0, 5)])
        board.hold()
        self.assertEqual(board.moved(), [])
        board.undo()
        board.free()
        self.assertEqual(board.moved(), [])

    def test_boxes_dropped_and_come_anew(self):
        board = board_with(("box", "a"), ("box", "b"), ("hold",), ("drop", "b"))
        self.assertEqual(board.moved(), [])
        self.assertEqual(board.held(), [["a", "b"]])
        board.box("c")
        board.box("b")
        board.arrow("a", "b")
        self.assertEqual(board.moved(), [("b", 0, 1)])
        board.cut(1)
        self.assertEqual(board.rows(), [[(0, 0), (0, 2), (0, 1)]])

    def test_by_one_layering(self):
        for web, _ in roomy_webs():
            board = board_of(web)
            layering = board.layers()
            self.assertEqual(layering, layers(web))
            rows = board.rows()
            self.assertEqual(board.crossings(), crossings(rows, chains(web, layering)))
            self.assertEqual(board.draw(), picture(web, layering, rows))
            for number, row in enumerate(rows):
                self.assertEqual(sorted(item[1] for item in row if item[0] == 0),
                                 [box for box, layer in enumerate(layering) if layer == number])


class TakenBack(Refusing):
    def test_nothing_left(self):
        board = Board()
        for ask in (board.undo, board.redo):
            with self.assertRaises(NothingLeft) as caught:
                ask()
            self.assertIsInstance(caught.exception, IndexError)
        board.box("a")
        self.assertRaises(NothingLeft, board.redo)
        self.assertEqual(board.undo(), ("box", "a"))
        self.assertRaises(NothingLeft, board.undo)
        self.assertEqual(board.redo(), ("box", "a"))
        self.assertRaises(NothingLeft, board.redo)
        self.assertEqual(board.deeds(), [("box", "a")])

    def test_another_deed(self):
        board = board_with(("box", "a"), ("box", "b"))
        board.undo()
        board.box("c")
        self.assertRaises(NothingLeft, board.redo)
        self.assertEqual(board.deeds(), [("box", "a"), ("box", "c")])

    def test_refused_deeds_and_questions_let_nothing_go(self):
        board = board_with(("box", "a"), ("box", "b"), ("arrow", "a", "b", 1, 1), ("hold",))
        board.undo()
        board.undo()
        for deed in [("box", "a"), (), ("cut", 5), ("drop", "q")]:
            with self.assertRaises((InkError, Missing)):
                board.do(deed)
        for ask in (board.layers, board.rows, board.crossings, board.moved, board.draw, board.turned, board.web,
                    board.numbers, board.held, board.deeds, board.twin):
            ask()
        self.assertTrue((len(board), str(board), repr(board), board == Board()))
        self.assertEqual(board.redo(), ("arrow", "a", "b", 1, 1))
        self.assertEqual(board.redo(), ("hold",))
        self.assertEqual(board.held(), [["a"], ["b"]])

    def test_numbers(self):
        board = board_with(("box", "a"), ("box", "b"))
        self.assertEqual(board.arrow("a", "b"), 1)
        self.assertEqual(board.arrow("b", "a"), 2)
        board.cut(2)
        board.undo()
        self.assertEqual(board.numbers(), ([1, 2], []))
        board.undo()
        self.assertEqual(board.numbers(), ([1], []))
        self.assertEqual(board.arrow("a", "a"), 2)
        self.assertEqual(board.say("a", "b"), 1)
        board.undo()
        self.assertEqual(board.say("b", "a"), 1)
        board.unsay(1)
        self.assertEqual(board.say("b", "a"), 2)
        self.assertEqual(board.arrow("a", "b"), 3)

    def test_deeds_are_the_askers_own(self):
        board = board_with(("box", "a"))
        told = board.deeds()
        told.clear()
        self.assertEqual(board.deeds(), [("box", "a")])
        self.assertEqual(board.undo(), ("box", "a"))


class Twins(unittest.TestCase):
    def test_all_of_it(self):
        board = board_with(("box", "a"), ("box", "b"), ("arrow", "a", "b", 1, 1), ("hold",), ("box", "c"))
        board.undo()
        twin = board.twin()
        self.assertIsNot(twin, board)
        self.assertIs(type(twin), Board)
        self.assertEqual(state_of(twin), state_of(board))
        self.assertEqual(twin.redo(), ("box", "c"))
        self.assertEqual([twin.undo() for _ in range(5)][-1], ("box", "a"))
        self.assertRaises(NothingLeft, twin.undo)
        self.assertEqual(len(board), 2)
        self.assertEqual(board.redo(), ("box", "c"))

    def test_they_go_apart(self):
        board = board_with(("box", "a"), ("box", "b"), ("arrow", "a", "b", 1, 1))
        board.undo()
        twin = board.twin()
        board.box("c")
        self.assertEqual(twin.web()[0], ("a", "b"))
        self.assertEqual(twin.redo(), ("arrow", "a", "b", 1, 1))
        self.assertRaises(NothingLeft, board.redo)
        twin.box("d")
        self.assertEqual(board.deeds(), [("box", "a"), ("box", "b"), ("box", "c")])
        self.assertEqual(twin.deeds(), [("box", "a"), ("box", "b"), ("arrow", "a", "b", 1, 1), ("box", "d")])
        self.assertEqual(board.arrow("a", "b"), 1)
        twin.undo()
        twin.undo()
        self.assertEqual(twin.arrow("b", "a"), 1)


class Equal(unittest.TestCase):
    def test_the_same(self):
        one = board_with(("box", "a"), ("box", "b"), ("arrow", "a", "b", 1, 1))
        other = board_with(("box", "a"), ("box", "c"), ("drop", "c"), ("box", "b"), ("arrow", "a", "b", 1, 1))
        self.assertTrue(one == other)
        self.assertFalse(one != other)
        self.assertEqual(Board(), Board())
        other.undo()
        self.assertFalse(one == other)
        self.assertTrue(one != other)

    def test_what_can_be_taken_back_does_not_count(self):
        board = board_with(("box", "a"), ("box", "b"))
        board.undo()
        self.assertEqual(board, board_with(("box", "a")))
        self.assertEqual(board, board_of((("a",), (), ())))

    def test_webs(self):
        base = [("box", "a"), ("box", "b"), ("arrow", "a", "b", 1, 1), ("say", "a", "b", 1)]
        board = board_with(*base)
        for deeds in [
            base[:1] + [("box", "c"), ("arrow", "a", "c", 1, 1), ("say", "a", "c", 1)],
            [base[1], base[0]] + base[2:],
            base[:2] + [("arrow", "b", "a", 1, 1), base[3]],
            base[:2] + [("arrow", "a", "b", 2, 1), base[3]],
            base[:2] + [("arrow", "a", "b", 1, 2), base[3]],
            base[:3] + [("say", "b", "a", 1)],
            base[:3] + [("say", "a", "b", 0)],
            base[:3], base + [("box", "c")],
        ]:
            self.assertNotEqual(board, board_with(*deeds))
        self.assertEqual(board, board_with(*base[:3], ("alter", 1, 3, 3), ("alter", 1, 1, 1), base[3]))

    def test_numbers(self):
        boxes = [("box", "a"), ("box", "b")]
        one = board_with(*boxes, ("arrow", "a", "b", 1, 1))
        other = board_with(*boxes, ("arrow", "a", "b", 1, 1), ("arrow", "a", "b", 1, 1), ("cut", 1))
        self.assertEqual(one.web(), other.web())
        self.assertNotEqual(one, other)
        one = board_with(*boxes, ("say", "a", "b", 1))
        other = board_with(*boxes, ("say", "a", "b", 1), ("say", "a", "b", 1), ("unsay", 1))
        self.assertEqual(one.web(), other.web())
        self.assertNotEqual(one, other)

    def test_numbers_to_be_given_next(self):
        boxes = [("box", "a"), ("box", "b")]
        plain = board_with(*boxes)
        for deeds in [[("arrow", "a", "b", 1, 1), ("cut", 1)], [("say", "a", "b", 1), ("unsay", 1)]]:
            other = board_with(*boxes, *deeds)
            self.assertEqual((other.web(), other.numbers()), (plain.web(), plain.numbers()))
            self.assertNotEqual(plain, other)
            other.undo()
            other.undo()
            self.assertEqual(plain, other)

    def test_what_is_held(self):
        one = board_with(("box", "a"))
        other = board_with(("box", "a"), ("hold",))
        self.assertNotEqual(one, other)
        one.hold()
        self.assertEqual(one, other)
        self.assertNotEqual(one, board_with(("hold",), ("box", "a")))
        other.free()
        self.assertEqual(other, board_with(("box", "a")))

    def test_nothing_else(self):
        board = board_with(("box", "a"))
        for thing in [None, 0, 1, "a", str(board), board.web(), [], (), {}, board.deeds(), object(), True]:
            self.assertFalse(board == thing)
            self.assertFalse(thing == board)
            self.assertTrue(board != thing)

    def test_len_str_repr(self):
        board = Board()
        self.assertEqual((len(board), str(board), repr(board)), (0, "", "Board "))
        for web in list(GOOD_WEBS.values()):
            board = board_of(web)
            self.assertEqual((len(board), str(board)), (len(web[0]), web_text(web)))
            self.assertEqual(repr(board), "Board " + web_text(web))


class BoardOf(unittest.TestCase):
    def test_webs(self):
        for web in [*GOOD_WEBS.values(), *wild_webs(100)]:
            board = board_of(web)
            self.assertIs(type(board), Board)
            self.assertEqual(board.web(), web)
            self.assertEqual(board.numbers(), ([*range(1, len(web[1]) + 1)], [*range(1, len(web[2]) + 1)]))
            self.assertIsNone(board.held())
            self.assertEqual(board.deeds(), [])
            self.assertRaises(NothingLeft, board.undo)
            self.assertRaises(NothingLeft, board.redo)
            self.assertEqual(board, board_of(web=web))

    def test_numbers_go_on(self):
        board = board_of((("a", "b"), ((0, 1, 1, 1),) * 3, ((0, 1, 1),)))
        self.assertEqual((board.arrow("a", "b"), board.say("a", "b")), (4, 2))
        board.undo()
        board.undo()
        self.assertEqual(board, board_of((("a", "b"), ((0, 1, 1, 1),) * 3, ((0, 1, 1),))))

    def test_as_if_by_deeds(self):
        for web, _ in itertools.islice(roomy_webs(), 0, None, 5):
            names, arrows, sayings = web
            board = Board()
            for name in names:
                board.box(name)
            for one, other, least, weight in arrows:
                board.arrow(names[one], names[other], least, weight)
            for one, other, least in sayings:
                board.say(names[one], names[other], least)
            self.assertEqual(board, board_of(web))

    def test_bad_webs(self):
        for why, web in BAD_WEBS.items():
            with self.subTest(why), self.assertRaises(BadWeb):
                board_of(web)


class LongRows(unittest.TestCase):
    """Long rows of deeds, refused ones, questions, undo and redo, by a board worked out anew each time."""

    def setUp(self):
        self.refused = set()

    def step(self, source, board, log, back):
        roll = source.random()
        if roll < 0.2:
            if log:
                back.append(log.pop())
                self.assertEqual(board.undo(), back[-1])
            else:
                self.assertRaises(NothingLeft, board.undo)
        elif roll < 0.35:
            if back:
                log.append(back.pop())
                self.assertEqual(board.redo(), log[-1])
            else:
                self.assertRaises(NothingLeft, board.redo)
        else:
            model = Model(log)
            deed = some_deed(source, model)
            due = model.due(deed)
            if due:
                with self.assertRaises(REFUSALS) as caught:
                    board.do(deed)
                self.assertIs(type(caught.exception), due[0], deed)
                self.refused.add(due[0])
            else:
                self.assertEqual(board.do(deed), model.do(deed))
                log.append(deed)
                back.clear()

    def compare(self, board, log):
        model = Model(log)
        self.assertEqual(board.web(), model.web())
        self.assertEqual(board.numbers(), model.numbers())
        self.assertEqual(board.held(), model.kept)
        self.assertEqual(board.deeds(), log)
        self.assertEqual(board.turned(), model.turned())
        self.assertEqual(len(board), len(model.names))

    def compare_pictures(self, board, log):
        model = Model(log)
        asks = (board.layers, board.rows, board.crossings, board.moved, board.draw)
        if model.due(("hold",)):
            for ask in asks:
                self.assertRaises(Clash, ask)
            return 0
        self.assertEqual(board.layers(), layers(model.web()))
        self.assertEqual(board.rows(), model.rows())
        self.assertEqual(board.crossings(), model.crossings())
        self.assertEqual(board.moved(), model.moved())
        self.assertEqual(board.draw(), model.draw())
        return bool(model.moved()) + bool(model.pairs(layers(model.web())))

    def test_one_board(self):
        seen = 0
        for seed in range(60):
            source = random.Random(seed)
            board, log, back = Board(), [], []
            for step in range(120):
                self.step(source, board, log, back)
                self.compare(board, log)
                if step % 6 == 0:
                    seen += self.compare_pictures(board, log)
        self.assertGreater(seen, 300)
        self.assertEqual(self.refused, set(REFUSALS) - {BadDeed, Full})

    def test_twins(self):
        for seed in range(10):
            source = random.Random(100 + seed)
            flock = [(Board(), [], [])]
            for _ in range(200):
                board, log, back = source.choice(flock)
                if source.random() < 0.05 and len(flock) < 4:
                    flock.append((board.twin(), list(log), list(back)))
                self.step(source, board, log, back)
            for board, log, _ in flock:
                self.compare(board, log)
                self.compare_pictures(board, log)

    def test_back_to_the_beginning_and_forth(self):
        source = random.Random(200)
        board, log, back = Board(), [], []
        while len(log) < 80:
            self.step(source, board, log, back)
        end = state_of(board)
        states = []
        for deed in reversed(log):
            states.append(state_of(board))
            self.assertEqual(board.undo(), deed)
        self.assertEqual(board, Board())
        for deed in log:
            self.assertEqual(board.redo(), deed)
            self.assertEqual(state_of(board), states.pop())
        self.assertEqual(state_of(board), end)


class ToldLists(unittest.TestCase):
    def asks(self, board):
        return (board.layers, board.rows, board.moved, board.turned, board.numbers, board.held, board.deeds)

    def test_changed_by_the_asker(self):
        board = board_with(*[("box", name) for name in "abc"], ("arrow", "a", "b", 1, 1), ("hold",),
                           ("say", "a", "c", 2), ("arrow", "b", "a", 1, 1))
        for ask in self.asks(board):
            told = ask()
            kept = copy.deepcopy(told)
            self.assertTrue(told)
            for part in [*told, told]:
                if isinstance(part, list):
                    part.clear()
            self.assertEqual(ask(), kept)

    def test_they_stay_when_the_board_goes_on(self):
        board = board_with(*[("box", name) for name in "abc"], ("arrow", "a", "b", 1, 1), ("hold",), ("say", "a", "c", 2))
        told = [ask() for ask in self.asks(board)]
        kept = copy.deepcopy(told)
        board.box("d")
        board.arrow("c", "d")
        board.arrow("d", "a")
        board.cut(1)
        board.free()
        board.undo()
        self.assertEqual(told, kept)


class ShortTime(unittest.TestCase):
    def test_forty_boxes(self):
        source = random.Random(61)
        web = (NAMES[:40], random_arrows(source, 40, 78), ())
        board = board_of(web)
        start = time.process_time()
        board.hold()
        board.arrow(NAMES[0], NAMES[39])
        board.arrow(NAMES[39], NAMES[1])
        board.layers(), board.rows(), board.crossings(), board.moved(), board.draw(), board.turned()
        self.assertLess(time.process_time() - start, 10)

    def test_many_deeds(self):
        start = time.process_time()
        board = board_with(("box", "a"), ("box", "b"))
        for number in range(1, 1500):
            self.assertEqual(board.arrow("a", "b"), number)
            board.cut(number)
        for _ in range(2998):
            board.undo()
        self.assertEqual(board, board_with(("box", "a"), ("box", "b")))
        self.assertLess(time.process_time() - start, 10)


if __name__ == "__main__":
    unittest.main()
