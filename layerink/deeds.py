"""Deeds: what leads from one state of a board to the next one.

Each deed is done by a function of a state and the deed's things, which tells
the state behind it and the number that it gives, None where it gives none.
"""

from layerink.errors import (
    BadDeed, BadLeast, BadName, BadWeight, Full, NoArrow, NoBox, NoSaying, Same, Taken, Tied,
)
from layerink.states import names_by_row
from layerink.webs import (
    MOST_ARROW_LEAST, MOST_ARROWS, MOST_BOXES, MOST_SAYING_LEAST, MOST_SAYINGS, MOST_WEIGHT, is_name,
)


def need_box(names, name):
    """Refuse with NoBox a name that no box has."""
    if name not in names:
        raise NoBox("there is no such box")


def need_arrow(arrows, number):
    """Refuse with NoArrow a number that no arrow has."""
    if number not in [arrow[0] for arrow in arrows]:
        raise NoArrow("there is no such arrow")


def need_bounds(least, weight):
    """Refuse with BadLeast or BadWeight what an arrow may not have."""
    if not 1 <= least <= MOST_ARROW_LEAST:
        raise BadLeast("this least is out of bounds")
    if not 1 <= weight <= MOST_WEIGHT:
        raise BadWeight("this weight is out of bounds")


def need_room(some, most):
    """Refuse with Full one more where there are as many as there may be."""
    if len(some) >= most:
        raise Full("there is no room for one more")


def do_box(state, name):
    """Put in a box."""
    names, arrows, sayings, given, held = state
    if not is_name(name):
        raise BadName("this is no name")
    if name in names:
        raise Taken("a box has this name")
    need_room(names, MOST_BOXES)
    return (names + (name,), arrows, sayings, given, held), None


def do_drop(state, name):
    """Take a box out."""
    names, arrows, sayings, given, held = state
    need_box(names, name)
    if any([name in tie[1:3] for tie in arrows + sayings]):
        raise Tied("an arrow or a saying has this box")
    left = [other for other in names if other != name]
    return (tuple(left), arrows, sayings, given, held), None


def do_arrow(state, one, other, least, weight):
    """Put in an arrow."""
    names, arrows, sayings, given, held = state
    need_box(names, one)
    need_box(names, other)
    need_bounds(least, weight)
    need_room(arrows, MOST_ARROWS)
    number = given[0] + 1
    arrow = (number, one, other, least, weight)
    return (names, arrows + (arrow,), sayings, (number, given[1]), held), number


def do_cut(state, number):
    """Take an arrow out."""
    names, arrows, sayings, given, held = state
    need_arrow(arrows, number)
    left = [arrow for arrow in arrows if arrow[0] != number]
    return (names, tuple(left), sayings, given, held), None


def do_alter(state, number, least, weight):
    """Give an arrow another least and weight."""
    names, arrows, sayings, given, held = state
    need_arrow(arrows, number)
    need_bounds(least, weight)
    altered = [arrow[:3] + (least, weight) if arrow[0] == number else arrow for arrow in arrows]
    return (names, tuple(altered), sayings, given, held), None


def do_say(state, one, other, least):
    """Put in a saying."""
    names, arrows, sayings, given, held = state
    need_box(names, one)
    need_box(names, other)
    if one == other:
        raise Same("a saying ties two unlike boxes")
    if not -MOST_SAYING_LEAST <= least <= MOST_SAYING_LEAST:
        raise BadLeast("this least is out of bounds")
    need_room(sayings, MOST_SAYINGS)
    number = given[1] + 1
    saying = (number, one, other, least)
    return (names, arrows, sayings + (saying,), (given[0], number), held), number


def do_unsay(state, number):
    """Take a saying out."""
    names, arrows, sayings, given, held = state
    if number not in [saying[0] for saying in sayings]:
        raise NoSaying("there is no such saying")
    left = [saying for saying in sayings if saying[0] != number]
    return (names, arrows, tuple(left), given, held), None


def do_hold(state):
    """Keep the picture as it is now."""
    names, arrows, sayings, given, held = state
    return (names, arrows, sayings, given, names_by_row(state)), None


def do_free(state):
    """Let go of the picture that is held."""
    names, arrows, sayings, given, held = state
    return (names, arrows, sayings, given, None), None


# For each deed the kinds of its things.
THINGS = {
    "box": ("name",),
    "drop": ("name",),
    "arrow": ("name", "name", "number", "number"),
    "cut": ("number",),
    "alter": ("number", "number", "number"),
    "say": ("name", "name", "number"),
    "unsay": ("number",),
    "hold": (),
    "free": (),
}

ACTIONS = {
    "box": do_box,
    "drop": do_drop,
    "arrow": do_arrow,
    "cut": do_cut,
    "alter": do_alter,
    "say": do_say,
    "unsay": do_unsay,
    "hold": do_hold,
    "free": do_free,
}


def done(state, deed):
    """Do a deed: tell the state behind it and the number that it gives, or None."""
    if len(deed) == 0 or deed[0] not in THINGS or len(deed) != len(THINGS[deed[0]]) + 1:
        raise BadDeed("this is no deed")
    action = ACTIONS[deed[0]]
    things = deed[1:]
    return action(state, *things)
