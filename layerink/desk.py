"""A desk: a board that is asked by lines, and answers by texts."""

from layerink.board import Board, board_of
from layerink.errors import (
    BadLeast, BadText, BadWeight, Clash, Full, NoArrow, NoBox, NoSaying, NothingLeft, Same, Taken, Tied,
)
from layerink.language import read_web
from layerink.layers import length
from layerink.pages import deed_text, read_deed

LOAD = "load "


def or_none(text):
    """Tell a text, or none where it is empty."""
    return text if text != "" else "none"


def numbers_text(numbers):
    """Tell numbers with one blank between."""
    return or_none(" ".join([str(number) for number in numbers]))


def answer_undo(board):
    """Take back the last deed."""
    return deed_text(board.undo())


def answer_redo(board):
    """Do again what was taken back last."""
    return deed_text(board.redo())


def answer_text(board):
    """Tell the text of the web."""
    return or_none(str(board))


def answer_layers(board):
    """Tell the layers of the boxes."""
    return numbers_text(board.layers())


def answer_length(board):
    """Tell the length of the layering."""
    return str(length(board.web()))


def answer_crossings(board):
    """Tell how many crossings there are."""
    return str(board.crossings())


def answer_turned(board):
    """Tell the numbers of the turned arrows."""
    return numbers_text(board.turned())


def answer_moved(board):
    """Tell the boxes that left their held layers."""
    return or_none(", ".join([f"{name} {before} {after}" for name, before, after in board.moved()]))


def answer_draw(board):
    """Tell the picture."""
    return or_none(board.draw())


ANSWERS = {
    "undo": answer_undo,
    "redo": answer_redo,
    "text": answer_text,
    "layers": answer_layers,
    "length": answer_length,
    "crossings": answer_crossings,
    "turned": answer_turned,
    "moved": answer_moved,
    "draw": answer_draw,
}


def answer_deed(board, line):
    """Do the deed that a line writes."""
    try:
        deed = read_deed(line)
    except BadText:
        return "no line"
    number = board.do(deed)
    return "done" if number is None else str(number)


def answer(board, line):
    """Answer a line that is no load."""
    if line in ANSWERS:
        action = ANSWERS[line]
        return action(board)
    return answer_deed(board, line)


def answer_or_refusal(board, line):
    """Answer a line that is no load, by the class where something is refused.

    No line asks for what the other classes refuse.
    """
    try:
        return answer(board, line)
    except Taken:
        return "refused taken"
    except Full:
        return "refused full"
    except NoBox:
        return "refused nobox"
    except Tied:
        return "refused tied"
    except BadLeast:
        return "refused badleast"
    except BadWeight:
        return "refused badweight"
    except NoArrow:
        return "refused noarrow"
    except Same:
        return "refused same"
    except NoSaying:
        return "refused nosaying"
    except Clash:
        return "refused clash"
    except NothingLeft:
        return "refused nothingleft"


class Desk:
    """A board that is asked by lines."""

    def __init__(self):
        self.draft = Board()

    def say(self, line):
        """Answer a line."""
        if not line.startswith(LOAD):
            return answer_or_refusal(self.draft, line)
        try:
            web = read_web(line[len(LOAD):])
        except BadText as error:
            return f"refused badtext {error.at}"
        self.draft = board_of(web)
        return "done"

    def board(self):
        """Tell a twin of the board."""
        return self.draft.twin()
