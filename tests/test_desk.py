import random
import unittest

from layerink.board import Board, board_of
from layerink.desk import Desk
from layerink.errors import BadText
from layerink.language import read_web, web_text
from layerink.layers import length
from layerink.pages import deed_text, read_deed
from boards import REFUSALS, Model, some_deed, state_of
from layerings import wild_webs
from samples import NAMES, full_web
from test_pages import BENT


class Lines(unittest.TestCase):
    def talk(self, *pairs, desk=None):
        desk = desk or Desk()
        for line, answer in pairs:
            told = desk.say(line)
            self.assertEqual(told, answer, line)
            self.assertIs(type(told), str)
        return desk

    def test_nothing_to_tell(self):
        self.talk(("text", "none"), ("layers", "none"), ("length", "0"), ("crossings", "0"), ("turned", "none"),
                  ("moved", "none"), ("draw", "none"), ("undo", "refused nothingleft"), ("redo", "refused nothingleft"))

    def test_deeds(self):
        self.talk(
            ("box a", "done"), ("box b", "done"), ("arrow a b 1 1", "1"), ("arrow b a 2 3", "2"), ("say a b -3", "1"),
            ("alter 2 1 1", "done"), ("hold", "done"), ("cut 1", "done"), ("unsay 1", "done"), ("free", "done"),
            ("say a b 0", "2"), ("arrow a a 1 1", "3"), ("text", "a; b; b > a; a > a; a <0 b"), ("unsay 2", "done"),
            ("cut 2", "done"), ("drop b", "done"), ("text", "a; a > a"),
        )

    def test_questions(self):
        desk = self.talk(
            ("box a", "done"), ("box b", "done"), ("box c", "done"), ("arrow a b 1 1", "1"), ("arrow b c 2 3", "2"),
            ("arrow c a 1 1", "3"), ("arrow c b 1 1", "4"), ("text", "a; b; c; a > b; b >2x3 c; c > a; c > b"),
            ("layers", "0 1 3"), ("length", "12"), ("crossings", "0"), ("turned", "3 4"), ("moved", "none"),
            ("hold", "done"), ("moved", "none"), ("say a b 3", "1"), ("moved", "b 1 3, c 3 5"), ("unsay 1", "done"),
            ("undo", "unsay 1"), ("undo", "say a b 3"), ("undo", "hold"), ("redo", "hold"), ("redo", "say a b 3"),
        )
        self.assertEqual(desk.say("draw"), desk.board().draw())

    def test_draw(self):
        self.talk(("box a", "done"), ("draw", "[a_]"), ("box b", "done"), ("arrow a b 1 1", "1"),
                  ("draw", "[a_]\n|\nL7\n v\n[b_]"))

    def test_crossings(self):
        self.talk(("load (a,b,c)>(x,y,z)", "done"), ("crossings", "9"))

    def test_refusals(self):
        desk = self.talk(
            ("box a", "done"), ("box a", "refused taken"), ("drop b", "refused nobox"), ("arrow a b 1 1", "refused nobox"),
            ("box b", "done"), ("arrow a b 0 1", "refused badleast"), ("arrow a b 1 10", "refused badweight"),
            ("arrow a b 1 1", "1"), ("drop a", "refused tied"), ("cut 2", "refused noarrow"), ("cut -1", "refused noarrow"),
            ("alter 0 1 1", "refused noarrow"), ("alter 1 4 1", "refused badleast"), ("say a a 1", "refused same"),
            ("say a b 10", "refused badleast"), ("say a c 10", "refused nobox"), ("unsay 1", "refused nosaying"), ("redo", "refused nothingleft"),
            ("say b a 0", "1"), ("hold", "refused clash"), ("layers", "refused clash"), ("length", "refused clash"),
            ("crossings", "refused clash"), ("moved", "refused clash"), ("draw", "refused clash"), ("turned", "none"),
            ("text", "a; b; a > b; b <0 a"),
        )
        self.assertEqual(len(desk.board().deeds()), 4)

    def test_full(self):
        desk = Desk()
        desk.say("load " + web_text(full_web()))
        self.talk(("box zz", "refused full"), ("arrow aa ab 1 1", "refused full"), ("say aa ab 1", "refused full"),
                  ("cut 80", "done"), ("arrow aa ab 1 1", "81"), desk=desk)

    def test_undo_and_redo(self):
        self.talk(
            ("undo", "refused nothingleft"), ("box a", "done"), ("arrow a a 3 9", "1"), ("undo", "arrow a a 3 9"),
            ("redo", "arrow a a 3 9"), ("redo", "refused nothingleft"), ("undo", "arrow a a 3 9"), ("undo", "box a"),
            ("undo", "refused nothingleft"), ("redo", "box a"), ("box b", "done"), ("redo", "refused nothingleft"),
            ("text", "a; b"), ("arrow a b 1 1", "1"),
        )

    def test_load(self):
        desk = self.talk(
            ("box q", "done"), ("box r", "done"), ("undo", "box r"), ("hold", "done"), ("undo", "hold"),
            ("load a > b <2 c; a = d", "done"), ("text", "a; b; c; d; a > b; b <2 c; a <0 d; d <0 a"),
            ("undo", "refused nothingleft"), ("redo", "refused nothingleft"), ("moved", "none"), ("arrow a b 1 1", "2"), ("say a b 1", "4"),
            ("undo", "say a b 1"), ("undo", "arrow a b 1 1"), ("undo", "refused nothingleft"),
        )
        self.assertEqual(desk.board(), board_of(read_web("a > b <2 c; a = d")))
        self.talk(("load ", "done"), ("text", "none"), ("load    ", "done"), ("load   a", "done"), ("text", "a"), desk=desk)

    def test_load_refused(self):
        desk = self.talk(("box a", "done"), ("box b", "done"), ("undo", "box b"))
        before = state_of(desk.board())
        for text, at in [("a >", 3), ("A", 0), (" a b", 3), ("a=a", 3), ("a;", 2), ("a\nb", 1), ("abcdefg", 6), ("a>4b", 2)]:
            self.talk(("load " + text, f"refused badtext {at}"), desk=desk)
        text = ";".join(NAMES[:41])
        self.talk(("load " + text, f"refused badtext {len(text)}"), desk=desk)
        self.assertEqual(state_of(desk.board()), before)
        self.talk(("redo", "box b"), desk=desk)

    def test_no_lines(self):
        desk = self.talk(("box a", "done"), ("box b", "done"), ("undo", "box b"))
        before = state_of(desk.board())
        near = ["load", "loada", "load\ta", "Load a", " load a", "undo ", " undo", "undo 1", "Undo", "undo\n", "redo ", "texts", "text ",
                "layer", "layers ", "length 1", "crossing", "turned?", "moved ", "draws", "draw\n", "none", "done", "no line", "help",
                "twin", "held", "web", "numbers", "board", "deeds", "rows", "page"]
        questions = {"undo", "redo", "text", "draw", "load a"}
        for line in near + [text for text in BENT if text not in questions]:
            self.talk((line, "no line"), desk=desk)
        self.assertEqual(state_of(desk.board()), before)
        self.talk(("redo", "box b"), desk=desk)

    def test_by_name(self):
        self.assertEqual(Desk().say(line="box a"), "done")

    def test_boards_that_were_told(self):
        desk = self.talk(("box a", "done"), ("box b", "done"), ("undo", "box b"))
        told = desk.board()
        self.assertIs(type(told), Board)
        self.assertEqual(told.deeds(), [("box", "a")])
        told.box("z")
        told.undo()
        told.undo()
        told.hold()
        self.assertEqual(desk.board().web(), (("a",), (), ()))
        self.assertIsNone(desk.board().held())
        self.talk(("redo", "box b"), ("text", "a; b"), desk=desk)
        self.assertEqual(told.web(), ((), (), ()))

    def test_two_desks(self):
        one, other = Desk(), Desk()
        self.talk(("box a", "done"), ("arrow a a 1 1", "1"), desk=one)
        self.talk(("text", "none"), ("box b", "done"), ("arrow b b 1 1", "1"), ("undo", "arrow b b 1 1"), desk=other)
        self.talk(("text", "a; a > a"), ("redo", "refused nothingleft"), ("undo", "arrow a a 1 1"), desk=one)
        self.talk(("redo", "arrow b b 1 1"), ("text", "b; b > b"), desk=other)


class ByBoard(unittest.TestCase):
    """A desk's answers by a board beside it."""

    def expected(self, board, line):
        try:
            return self.answer(board, line)
        except (*REFUSALS, IndexError) as error:
            return "refused " + type(error).__name__.lower()

    def answer(self, board, line):
        if line in ("undo", "redo"):
            return deed_text(getattr(board, line)())
        if line in ("layers", "turned"):
            return " ".join(map(str, getattr(board, line)())) or "none"
        if line == "length":
            return str(length(board.web()))
        if line == "crossings":
            return str(board.crossings())
        if line == "moved":
            return ", ".join(" ".join(map(str, triple)) for triple in board.moved()) or "none"
        if line == "draw":
            return board.draw() or "none"
        if line == "text":
            return str(board) or "none"
        try:
            deed = read_deed(line)
        except BadText:
            return "no line"
        told = board.do(deed)
        return "done" if told is None else str(told)

    def test_long_talks(self):
        words = set()
        for seed in range(25):
            source = random.Random(400 + seed)
            desk, board = Desk(), Board()
            for _ in range(120):
                line = source.choice(["undo", "redo", "text", "layers", "length", "crossings", "turned", "moved", "draw"])
                if source.random() < 0.75:
                    line = deed_text(some_deed(source, Model(board.deeds())))
                expected = self.expected(board, line)
                self.assertEqual(desk.say(line), expected, line)
                words.add(expected.split(" ")[-1] if expected.startswith("refused") else "")
            self.assertEqual(state_of(desk.board()), state_of(board))
        self.assertLessEqual({"taken", "nobox", "tied", "badleast", "badweight", "noarrow", "same", "nosaying", "clash", "nothingleft"}, words)

    def test_loaded_webs(self):
        for web in wild_webs(150):
            desk, board = Desk(), board_of(web)
            self.assertEqual(desk.say("load " + web_text(web)), "done")
            for line in ["text", "layers", "length", "crossings", "turned", "moved", "draw", "hold", "moved", "undo", "undo", "redo"]:
                self.assertEqual(desk.say(line), self.expected(board, line))
            self.assertEqual(desk.board(), board)


if __name__ == "__main__":
    unittest.main()
