"""Deeds as texts, and pages of them."""

from layerink.board import Board
from layerink.deeds import THINGS
from layerink.errors import BadText, InkError, Missing
from layerink.language import FIGURES
from layerink.webs import is_name

MOST_FIGURES = 3


def deed_text(deed):
    """Tell the text of a deed."""
    return " ".join([str(thing) for thing in deed])


def is_number(word):
    """Tell whether a word writes a number as deeds have it."""
    figures = word[1:] if word.startswith("-") else word
    if not 1 <= len(figures) <= MOST_FIGURES or not all([sign in FIGURES for sign in figures]):
        return False
    # Nought is written in one way only, and no other number begins with it.
    return word == "0" or figures[0] != "0"


def read_deed(text):
    """Read the text of a deed."""
    word, *things = text.split(" ")
    kinds = THINGS.get(word)
    if kinds is None or len(things) != len(kinds):
        raise BadText(0)
    deed = [word]
    for thing, kind in zip(things, kinds):
        if kind == "name" and is_name(thing):
            deed.append(thing)
        elif kind == "number" and is_number(thing):
            deed.append(int(thing))
        else:
            raise BadText(0)
    return tuple(deed)


def page(board, skip=0):
    """Tell the lines of the deeds that stand on a board, from that of a number on."""
    return "".join([deed_text(deed) + "\n" for deed in board.deeds()[skip:]])


def read_page(text):
    """Read a page to a board on which its deeds were done."""
    board = Board()
    *lines, rest = text.split("\n")
    for number, line in enumerate(lines):
        try:
            board.do(read_deed(line))
        except (InkError, Missing):
            raise BadText(number) from None
    if rest != "":
        raise BadText(len(lines))
    return board
