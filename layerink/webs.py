"""Webs: tuples (names, arrows, sayings), and what is asked of them alone."""

from layerink.errors import BadArrow, BadWeb

LETTERS = "abcdefghijklmnopqrstuvwxyz"
MOST_LETTERS = 6
MOST_BOXES = 40
MOST_ARROWS = 80
MOST_SAYINGS = 20
MOST_ARROW_LEAST = 3
MOST_WEIGHT = 9
MOST_SAYING_LEAST = 9


def is_name(name):
    """Tell whether a text may be the name of a box."""
    return 1 <= len(name) <= MOST_LETTERS and all([sign in LETTERS for sign in name])


def are_names(names):
    """Tell whether a tuple of texts may be the names of a web."""
    if len(names) > MOST_BOXES or len(set(names)) < len(names):
        return False
    return all([is_name(name) for name in names])


def is_arrow(arrow, boxes):
    """Tell whether a tuple of numbers may be an arrow in a web of so many boxes."""
    if len(arrow) != 4:
        return False
    one, other, least, weight = arrow
    if not (0 <= one < boxes and 0 <= other < boxes):
        return False
    return 1 <= least <= MOST_ARROW_LEAST and 1 <= weight <= MOST_WEIGHT


def is_saying(saying, boxes):
    """Tell whether a tuple of numbers may be a saying in a web of so many boxes."""
    if len(saying) != 3:
        return False
    one, other, least = saying
    if not (0 <= one < boxes and 0 <= other < boxes):
        return False
    return one != other and -MOST_SAYING_LEAST <= least <= MOST_SAYING_LEAST


def is_web(web):
    """Tell whether a tuple of three things is a web."""
    names, arrows, sayings = web
    if len(arrows) > MOST_ARROWS or len(sayings) > MOST_SAYINGS or not are_names(names):
        return False
    boxes = len(names)
    if not all([is_arrow(arrow, boxes) for arrow in arrows]):
        return False
    return all([is_saying(saying, boxes) for saying in sayings])


def need_web(web):
    """Refuse with BadWeb what is no web."""
    if not is_web(web):
        raise BadWeb("this is no web")


def boxes_of(web, arrow):
    """Tell the pair (one, other) of the boxes of the arrow at a place."""
    need_web(web)
    arrows = web[1]
    if not 0 <= arrow < len(arrows):
        raise BadArrow("there is no arrow at this place")
    return arrows[arrow][:2]


def without(web, arrows):
    """Tell the web without the arrows at the places of a list."""
    need_web(web)
    names, before, sayings = web
    left = [arrow for place, arrow in enumerate(before) if place not in arrows]
    return (names, tuple(left), sayings)
