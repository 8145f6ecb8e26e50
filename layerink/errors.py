"""The errors by which the program refuses what it is handed."""


class InkError(ValueError):
    """Something that was handed in is not as it must be."""


class BadWeb(InkError):
    """A tuple is no web."""


class BadArrow(InkError):
    """A place is not that of an arrow as it is asked for."""


class BadWay(InkError):
    """A number is none of the four ways to place."""


class BadName(InkError):
    """A text is not 1 to 6 letters a to z."""


class Taken(InkError):
    """A box has that name."""


class Full(InkError):
    """A web has as many things of a kind as it may have."""


class Tied(InkError):
    """An arrow or a saying has that box."""


class BadLeast(InkError):
    """A least is out of its bounds."""


class BadWeight(InkError):
    """A weight is out of its bounds."""


class Same(InkError):
    """A saying would tie a box to itself."""


class BadDeed(InkError):
    """A tuple is no deed."""


class BadText(InkError):
    """A text cannot be read; `at` tells where."""

    def __init__(self, at):
        super().__init__(f"this cannot be read at {at}")
        self.at = at


class Clash(InkError):
    """No layering keeps all ties; `ring` is a ring of ties that shows it."""

    def __init__(self, ring):
        super().__init__("no layering keeps all ties")
        # A copy, so that the list stays the caller's own.
        self.ring = list(ring)


class Missing(LookupError):
    """Something that was asked for is not there."""


class NoBox(Missing):
    """No box has that name."""


class NoArrow(Missing):
    """No arrow has that number."""


class NoSaying(Missing):
    """No saying has that number."""


class NothingLeft(IndexError):
    """There is no deed to take back or to do again."""
