import itertools
import random
import unittest

from layerink.board import Board
from layerink.errors import BadText, NothingLeft
from layerink.pages import deed_text, page, read_deed, read_page
from boards import Model, some_deed, state_of

DEEDS = {
    "box a": ("box", "a"),
    "box abcxyz": ("box", "abcxyz"),
    "box box": ("box", "box"),
    "drop b": ("drop", "b"),
    "arrow a b 1 1": ("arrow", "a", "b", 1, 1),
    "arrow x x 3 9": ("arrow", "x", "x", 3, 9),
    "arrow arrow cut -999 999": ("arrow", "arrow", "cut", -999, 999),
    "cut 1": ("cut", 1),
    "cut 100": ("cut", 100),
    "cut -5": ("cut", -5),
    "cut 0": ("cut", 0),
    "alter 1 2 3": ("alter", 1, 2, 3),
    "alter 10 0 -1": ("alter", 10, 0, -1),
    "say a b 0": ("say", "a", "b", 0),
    "say a a -9": ("say", "a", "a", -9),
    "say a b 99": ("say", "a", "b", 99),
    "unsay 999": ("unsay", 999),
    "hold": ("hold",),
    "free": ("free",),
}

BENT = [
    "", " ", "a", "box", "box ", "box  a", " box a", "box a ", "box a b", "Box a", "BOX a", "boxa", "box\ta", "box a\n", "\nbox a",
    "box A", "box 1", "box abcdefg", "box a1", "box \u00e4", "box -", "drop", "drop 1", "drop a b", "arrow a b", "arrow a b 1",
    "arrow a b 1 1 1", "arrow a b 1 x", "arrow a 1 b 1", "arrow  a b 1 1", "arrow a b  1 1", "arrow 1 1 a b", "cut", "cut a",
    "cut 01", "cut 00", "cut -0", "cut -01", "cut +1", "cut 1000", "cut -1000", "cut 1.0", "cut - 1", "cut --1", "cut 1 2", "cut \u0661",
    "cut \u00b2", "cut 1_0", "cut 0x1", "cut -", "alter 1", "alter 1 1", "alter 1 1 1 1", "alter a 1 1", "say a b", "say a b 1 1",
    "say a b c", "unsay", "unsay x", "unsay 1 1", "hold a", "hold ", "free 1", "free ", "undo", "redo", "text", "load a", "draw", "Hold",
    "cut 0001", "cut 9999999999", "box a;box b", "box a,b",
]


class DeedTexts(unittest.TestCase):
    def test_written_and_read(self):
        for text, deed in DEEDS.items():
            self.assertEqual(deed_text(deed), text)
            self.assertEqual(read_deed(text), deed)
            self.assertIs(type(read_deed(text)), tuple)
            self.assertEqual(deed_text(deed=deed), text)
            self.assertEqual(read_deed(text=text), deed)

    def test_bent(self):
        for text in BENT:
            with self.subTest(text), self.assertRaises(BadText) as caught:
                read_deed(text)
            self.assertEqual(caught.exception.at, 0)

    def test_all_numbers(self):
        for number in range(-999, 1000):
            self.assertEqual(deed_text(("cut", number)), f"cut {number}")
            self.assertEqual(read_deed(f"cut {number}"), ("cut", number))

    def test_bent_at_each_sign(self):
        signs = "a1 0-Z\n"
        for text in DEEDS:
            for place, sign in itertools.product(range(len(text) + 1), signs):
                for bent in (text[:place] + sign + text[place:], text[:place] + sign + text[place + 1:], text[:place]):
                    try:
                        deed = read_deed(bent)
                    except BadText as error:
                        self.assertEqual(error.at, 0)
                    else:
                        # What can be read is written just so.
                        self.assertEqual(deed_text(deed), bent)


def worked_boards():
    """Boards behind many deeds, some taken back."""
    for seed in range(30):
        source = random.Random(300 + seed)
        board, log = Board(), []
        for _ in range(60):
            model = Model(log)
            deed = some_deed(source, model)
            if not model.due(deed):
                board.do(deed)
                log.append(deed)
            if log and source.random() < 0.1:
                board.undo()
                log.pop()
        yield board, log


class Pages(unittest.TestCase):
    def test_no_deeds(self):
        self.assertEqual(page(Board()), "")
        board = read_page("")
        self.assertIs(type(board), Board)
        self.assertEqual((board, board.deeds()), (Board(), []))

    def test_lines(self):
        board = Board()
        board.box("a")
        board.box("b")
        board.arrow("a", "b")
        board.say("a", "b", -2)
        board.hold()
        self.assertEqual(page(board), "box a\nbox b\narrow a b 1 1\nsay a b -2\nhold\n")
        board.undo()
        self.assertEqual(page(board), "box a\nbox b\narrow a b 1 1\nsay a b -2\n")
        self.assertEqual(page(board, 2), "arrow a b 1 1\nsay a b -2\n")
        self.assertEqual(page(skip=3, board=board), "say a b -2\n")
        self.assertEqual([page(board, skip) for skip in (4, 5, 999, 10 ** 39)], [""] * 4)
        self.assertEqual(page(board, 0), page(board=board))
        self.assertEqual(board.redo(), ("hold",))

    def test_worked_boards(self):
        for board, log in worked_boards():
            before = state_of(board)
            text = page(board)
            self.assertEqual(text, "".join(" ".join(map(str, deed)) + "\n" for deed in log))
            for skip in range(len(log) + 2):
                self.assertEqual(page(board, skip), "".join(deed_text(deed) + "\n" for deed in log[skip:]))
            self.assertEqual(state_of(board), before)
            told = read_page(text)
            self.assertEqual(told, board)
            self.assertEqual(state_of(told), before)
            self.assertRaises(NothingLeft, told.redo)
            for deed in reversed(log):
                self.assertEqual(told.undo(), deed)
            self.assertRaises(NothingLeft, told.undo)
            self.assertEqual(told, Board())

    def test_a_page_in_two_parts(self):
        for board, log in worked_boards():
            half = len(log) // 2
            first = "".join(deed_text(deed) + "\n" for deed in log[:half])
            self.assertEqual(read_page(text=first + page(board, half)), board)

    def refuse(self, text, at):
        with self.assertRaises(BadText) as caught:
            read_page(text)
        self.assertEqual(caught.exception.at, at, text)
        self.assertIs(type(caught.exception.at), int)

    def test_bad_lines(self):
        self.refuse("\n", 0)
        self.refuse("box a\n\n", 1)
        self.refuse("box a\n\nbox b\n", 1)
        self.refuse("box a\nbox\nbox a\n", 1)
        self.refuse("box a\r\n", 0)
        self.refuse("box a\nbox b\nundo\n", 2)
        self.refuse(" \n", 0)
        for text in BENT:
            if "\n" not in text:
                self.refuse(f"box q\nbox z\n{text}\nbox w\nbox w\n", 2)

    def test_refused_deeds(self):
        start = "box a\nbox b\narrow a b 2 1\n"
        for line in ["box a", "drop c", "drop a", "arrow a c 1 1", "arrow a b 4 1", "arrow a b 1 0", "cut 2", "alter 2 1 1", "alter 1 9 1",
                     "say a a 1", "say a b 10", "unsay 1", "cut -1", "say c a 1"]:
            self.refuse(start + line + "\n", 3)
            self.refuse(start + line, 3)
            self.refuse(start + line + "\nbad\n", 3)
            self.refuse(start + "box c2\n" + line + "\n", 3)
        self.refuse(start + "say b a 0\nhold\n", 4)
        self.refuse("".join(f"box {one}{other}\n" for one, other in itertools.product("abcde", "abcdefghi")), 40)

    def test_a_last_line_without_its_line_feed(self):
        self.refuse("box a", 0)
        self.refuse("box a\nbox b", 1)
        self.refuse("box a\nbox b\nnonsense", 2)
        self.refuse("box a\nbox a\nbox b", 1)
        self.refuse(" ", 0)

    def test_boards_of_pages_are_their_own(self):
        one, other = read_page("box a\n"), read_page("box a\n")
        one.box("b")
        self.assertEqual(other.web()[0], ("a",))


if __name__ == "__main__":
    unittest.main()
