"""A board: a web under edit, with the picture that its reader is used to."""

from layerink.deeds import done
from layerink.errors import NothingLeft
from layerink.language import web_text
from layerink.states import (
    START, crossings_of, layers_of, moved_of, picture_of, rows_of, state_of, turned_of, web_of,
)


class Board:
    """A web under edit; it has no boxes at first.

    Now is its state. Past has the deeds that stand, each with the state ahead of
    it; future has those that were taken back, each with the state behind it.
    """

    def __init__(self):
        self.now = START
        self.past = []
        self.future = []

    def do(self, deed):
        """Do a deed, and tell the number that it gives, None where it gives none."""
        after, number = done(self.now, deed)
        self.past.append((deed, self.now))
        self.future = []
        self.now = after
        return number

    def box(self, name):
        """Put in a box."""
        return self.do(("box", name))

    def drop(self, name):
        """Take a box out."""
        return self.do(("drop", name))

    def arrow(self, one, other, least=1, weight=1):
        """Put in an arrow, and tell its number."""
        return self.do(("arrow", one, other, least, weight))

    def cut(self, number):
        """Take an arrow out."""
        return self.do(("cut", number))

    def alter(self, number, least=1, weight=1):
        """Give an arrow another least and weight."""
        return self.do(("alter", number, least, weight))

    def say(self, one, other, least=1):
        """Put in a saying, and tell its number."""
        return self.do(("say", one, other, least))

    def unsay(self, number):
        """Take a saying out."""
        return self.do(("unsay", number))

    def hold(self):
        """Keep the picture as it is now."""
        return self.do(("hold",))

    def free(self):
        """Let go of the picture that is held."""
        return self.do(("free",))

    def undo(self):
        """Take back the last deed, and tell it."""
        if len(self.past) == 0:
            raise NothingLeft("there is no deed to take back")
        deed, before = self.past.pop()
        self.future.append((deed, self.now))
        self.now = before
        return deed

    def redo(self):
        """Do again what was taken back last, and tell it."""
        if len(self.future) == 0:
            raise NothingLeft("there is no deed to do again")
        deed, after = self.future.pop()
        self.past.append((deed, self.now))
        self.now = after
        return deed

    def deeds(self):
        """Tell the deeds that stand, the eldest first."""
        return [deed for deed, before in self.past]

    def twin(self):
        """Tell a board that has all of this one, and goes its own way from now on."""
        mate = Board()
        mate.now = self.now
        mate.past = list(self.past)
        mate.future = list(self.future)
        return mate

    def web(self):
        """Tell the web."""
        return web_of(self.now)

    def numbers(self):
        """Tell the pair of lists of the numbers of arrows and of sayings."""
        names, arrows, sayings, given, held = self.now
        return [arrow[0] for arrow in arrows], [saying[0] for saying in sayings]

    def held(self):
        """Tell the names in each layer of the held picture, None where none is held."""
        kept = self.now[4]
        return None if kept is None else [list(row) for row in kept]

    def layers(self):
        """Tell the layers of the boxes."""
        return layers_of(self.now)

    def rows(self):
        """Tell the rows, as near to the held picture as they can be."""
        return rows_of(self.now)

    def crossings(self):
        """Tell how many crossings the rows have."""
        return crossings_of(self.now)

    def moved(self):
        """Tell the triples (name, layer then, layer now) of the boxes that left their held layers."""
        return moved_of(self.now)

    def draw(self):
        """Tell the picture."""
        return picture_of(self.now)

    def turned(self):
        """Tell the numbers of the turned arrows, rising."""
        return turned_of(self.now)

    def __eq__(self, other):
        return isinstance(other, Board) and self.now == other.now

    def __len__(self):
        return len(self.now[0])

    def __str__(self):
        return str(web_text(self.web()))

    def __repr__(self):
        return f"Board {web_text(self.web())}"


def board_of(web):
    """Tell a board whose web that is, with numbers in order and no deeds."""
    board = Board()
    board.now = state_of(web)
    return board
