"""Widths of boxes, blocks of items, and the places of items in the picture.

Each way is way 0 in the rows as that way sees them.
"""

from layerink.chains import neighbours
from layerink.errors import BadWay
from layerink.webs import need_web

WAYS = 4
BEND_WIDTH = 2
GAP = 2


def widths(web, layering):
    """Tell for each box the least even number that has room for its name, its loops and its segments."""
    need_web(web)
    names, arrows, sayings = web
    signs = [len(name) + 2 for name in names]
    above = [0] * len(names)
    below = [0] * len(names)
    for one, other, least, weight in arrows:
        if one == other:
            signs[one] += 1
        elif layering[one] < layering[other]:
            below[one] += 1
            above[other] += 1
        else:
            below[other] += 1
            above[one] += 1
    return [max((signs[box] + 1) // 2, above[box], below[box]) * 2 for box in range(len(names))]


def need_way(way):
    """Refuse with BadWay what is none of the four ways."""
    if not 0 <= way < WAYS:
        raise BadWay("there is no such way")


def goes_up(way):
    """Tell whether a way goes upwards."""
    return way in (2, 3)


def goes_right(way):
    """Tell whether a way goes to the right."""
    return way in (1, 3)


def rows_seen(rows, way):
    """Tell the rows as a way takes them."""
    some = rows[::-1] if goes_up(way) else rows
    return [row[::-1] if goes_right(way) else row for row in some]


def joined(ahead, row, mates):
    """Tell for the items of a row to which ones of the row ahead they are joined, as a dict."""
    where = {item: place for place, item in enumerate(ahead)}
    told = {}
    last = -1
    for item in row:
        near = sorted([where[mate] for mate in mates.get(item, [])])
        if not near:
            continue
        middle = [near[(len(near) - 1) // 2], near[len(near) // 2]]
        free = [place for place in middle if place > last]
        if free:
            last = free[0]
            told[item] = ahead[last]
    return told


def blocks_seen(some, chains, way):
    """Tell the blocks in rows as a way takes them, each in the order of these rows."""
    above, below = neighbours(chains)
    mates = below if goes_up(way) else above
    told = []
    block_of = {}
    ahead = []
    for row in some:
        joins = joined(ahead, row, mates)
        for item in row:
            if item in joins:
                block = block_of[joins[item]]
            else:
                block = []
                told.append(block)
            block.append(item)
            block_of[item] = block
        ahead = row
    return told


def blocks(rows, chains, way=0):
    """Tell the blocks of a way, from the top down, by their topmost items."""
    need_way(way)
    told = blocks_seen(rows_seen(rows, way), chains, way)
    if goes_up(way):
        told = [block[::-1] for block in told]
    where = {item: (number, place) for number, row in enumerate(rows) for place, item in enumerate(row)}
    return sorted(told, key=lambda block: where[block[0]])


def width_of(item, widths):
    """Tell how wide an item is."""
    return BEND_WIDTH if item[0] == 1 else widths[item[1]]


def leftmost(some, lots, widths):
    """Tell the least place of each item at which blocks are straight and no items too near, as a dict.

    A block gets its place when all items ahead of its own ones have theirs.
    """
    lot_of = {item: number for number, lot in enumerate(lots) for item in lot}
    behind = {left: right for row in some for left, right in zip(row, row[1:])}
    waits = [0] * len(lots)
    for right in behind.values():
        waits[lot_of[right]] += 1
    least = [0] * len(lots)
    ready = [number for number in range(len(lots)) if waits[number] == 0]
    while ready:
        here = ready.pop()
        for item in lots[here]:
            if item not in behind:
                continue
            number = lot_of[behind[item]]
            least[number] = max(least[number], least[here] + width_of(item, widths) + GAP)
            waits[number] -= 1
            if waits[number] == 0:
                ready.append(number)
    return {item: least[lot_of[item]] for item in lot_of}


def placed(rows, chains, widths, way=0):
    """Tell the places of the items by one of the ways, row by row."""
    need_way(way)
    some = rows_seen(rows, way)
    where = leftmost(some, blocks_seen(some, chains, way), widths)
    if goes_right(way):
        ends = {item: where[item] + width_of(item, widths) for item in where}
        most = max(list(ends.values()), default=0)
        where = {item: most - ends[item] for item in where}
    return [[where[item] for item in row] for row in rows]


def middle_place(four):
    """Tell the place between the two middle ones of four places, even where these are."""
    second, third = sorted(four)[1:3]
    return (second + third) // 4 * 2


def places(rows, chains, widths):
    """Tell the places of the items in the picture, row by row."""
    ways = [placed(rows, chains, widths, way) for way in range(WAYS)]
    told = [[middle_place(four) for four in zip(*some)] for some in zip(*ways)]
    least = min([place for row in told for place in row], default=0)
    return [[place - least for place in row] for row in told]
