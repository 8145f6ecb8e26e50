"""States of a board, and what is told of them.

A state is a tuple (names, arrows, sayings, given, held). Arrows are tuples
(number, name, name, least, weight), sayings tuples (number, name, name, least).
Given is the pair of how many numbers were given to arrows and to sayings. Held
has for each layer of the held picture a tuple of names, or is None. A state
never changes, so boards can share it.
"""

from layerink.chains import chains, rows
from layerink.crossings import crossings
from layerink.layers import layers
from layerink.orders import ordered
from layerink.pictures import picture
from layerink.rings import turned
from layerink.webs import need_web

START = ((), (), (), (0, 0), None)


def state_of(web):
    """Tell the state of a web with numbers from 1 on and nothing held."""
    need_web(web)
    names, arrows, sayings = web
    numbered_arrows = [
        (place + 1, names[one], names[other], least, weight)
        for place, (one, other, least, weight) in enumerate(arrows)
    ]
    numbered_sayings = [
        (place + 1, names[one], names[other], least)
        for place, (one, other, least) in enumerate(sayings)
    ]
    return (names, tuple(numbered_arrows), tuple(numbered_sayings), (len(arrows), len(sayings)), None)


def web_of(state):
    """Tell the web of a state."""
    names, arrows, sayings, given, held = state
    boxes = {name: place for place, name in enumerate(names)}
    plain_arrows = [(boxes[one], boxes[other], least, weight) for number, one, other, least, weight in arrows]
    plain_sayings = [(boxes[one], boxes[other], least) for number, one, other, least in sayings]
    return (names, tuple(plain_arrows), tuple(plain_sayings))


def layers_of(state):
    """Tell the layers of the boxes."""
    return layers(web_of(state))


def stands_in(held):
    """Tell for each name where it is held, (layer, place in its row), as a dict."""
    return {name: (layer, place) for layer, row in enumerate(held) for place, name in enumerate(row)}


def stands_by_box(state):
    """Tell for each box that is held where it is held, as a dict."""
    names, arrows, sayings, given, held = state
    if held is None:
        return {}
    stands = stands_in(held)
    return {box: stands[name] for box, name in enumerate(names) if name in stands}


def put_first(row, stands):
    """Tell a row with the boxes that are held ahead, by their places in their held rows."""
    held = [item for item in row if item[0] == 0 and item[1] in stands]
    others = [item for item in row if item not in held]
    return sorted(held, key=lambda item: (stands[item[1]][1], item[1])) + others


def held_pairs(row, stands):
    """Tell the pairs of items of a row that were in one layer when they were held."""
    held = [item for item in row if item[0] == 0 and item[1] in stands]
    return [
        (left, right)
        for place, left in enumerate(held)
        for right in held[place + 1:]
        if stands[left[1]][0] == stands[right[1]][0]
    ]


def rows_by(state, layering):
    """Tell the rows of a layering, in the order of the board."""
    web = web_of(state)
    stands = stands_by_box(state)
    first = [put_first(row, stands) for row in rows(web, layering)]
    pairs = [pair for row in first for pair in held_pairs(row, stands)]
    return ordered(first, chains(web, layering), pairs)


def rows_of(state):
    """Tell the rows."""
    return rows_by(state, layers_of(state))


def names_by_row(state):
    """Tell the names in each row, from left to right, as tuples."""
    names = state[0]
    return tuple([tuple([names[item[1]] for item in row if item[0] == 0]) for row in rows_of(state)])


def crossings_of(state):
    """Tell how many crossings the rows have."""
    layering = layers_of(state)
    return crossings(rows_by(state, layering), chains(web_of(state), layering))


def moved_of(state):
    """Tell the triples (name, layer then, layer now) of the boxes that left their held layers."""
    names = state[0]
    layering = layers_of(state)
    stands = stands_by_box(state)
    return [
        (names[box], stands[box][0], layering[box])
        for box in range(len(names))
        if box in stands and stands[box][0] != layering[box]
    ]


def picture_of(state):
    """Tell the picture."""
    layering = layers_of(state)
    return picture(web_of(state), layering, rows_by(state, layering))


def turned_of(state):
    """Tell the numbers of the turned arrows, rising."""
    return [state[1][place][0] for place in turned(web_of(state))]
