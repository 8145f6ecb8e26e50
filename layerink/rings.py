"""Rings of arrows, the arrows that are turned so that no ring is left, and knots."""

from layerink.errors import BadArrow
from layerink.webs import need_web


def walk(steps, start):
    """Go everywhere from a box; steps has for each box the pairs (arrow, next box).

    Each box that is reached has the pair (arrow, box ahead) by which it was
    reached first, None for the start.
    """
    came = {start: None}
    waiting = [start]
    while waiting:
        here = waiting.pop(0)
        for arrow, box in steps[here]:
            if box not in came:
                came[box] = (arrow, here)
                waiting.append(box)
    return came


def path(came, end):
    """Tell the arrows by which a walk came from its start to a box, in order.

    Where came has something else ahead of the boxes, it is told instead.
    """
    arrows = []
    step = came[end]
    while step is not None:
        arrow, box = step
        arrows.append(arrow)
        step = came[box]
    return arrows[::-1]


def rings_by_arrow(web):
    """Tell the ring of each turned arrow, as a dict by rising places."""
    steps = [[] for name in web[0]]
    rings = {}
    for place, (one, other, least, weight) in enumerate(web[1]):
        # A loop is no part of any ring, so it is neither turned nor walked along.
        if one == other:
            continue
        came = walk(steps, other)
        if one in came:
            rings[place] = [place] + path(came, one)
        else:
            steps[one].append((place, other))
    return rings


def turned(web):
    """Tell the places of the turned arrows, rising."""
    need_web(web)
    return list(rings_by_arrow(web))


def ring(web, arrow):
    """Tell the places of the arrows of a turned arrow's ring, itself first."""
    need_web(web)
    rings = rings_by_arrow(web)
    if arrow not in rings:
        raise BadArrow("no turned arrow is at this place")
    return rings[arrow]


def knots(web):
    """Tell the lists of boxes that are knotted, each rising, by their first boxes."""
    need_web(web)
    count = len(web[0])
    steps = [[] for name in web[0]]
    for place, (one, other, least, weight) in enumerate(web[1]):
        steps[one].append((place, other))
    reach = [walk(steps, box) for box in range(count)]
    told = []
    for box in range(count):
        knot = [mate for mate in range(count) if mate in reach[box] and box in reach[mate]]
        # Each box of a knot finds the same knot; it is told once, by its first box.
        if knot[0] == box:
            told.append(knot)
    return told
