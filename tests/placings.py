"""Widths, blocks and places, worked out anew for the tests."""

import collections


def widths_by_words(web, layering):
    names, arrows, _ = web
    told = []
    for box, name in enumerate(names):
        loops = sum(one == other == box for one, other, _, _ in arrows)
        mates = [one + other - box for one, other, _, _ in arrows if one != other and box in (one, other)]
        below = sum(layering[mate] > layering[box] for mate in mates)
        above = sum(layering[mate] < layering[box] for mate in mates)
        width = 0
        while width < len(name) + loops + 2 or width < 2 * below or width < 2 * above:
            width += 2
        told.append(width)
    return told


def taken(some, way):
    """The rows as a way takes them."""
    some = [list(row) for row in some]
    if way in (2, 3):
        some.reverse()
    if way in (1, 3):
        for row in some:
            row.reverse()
    return some


def joins_by_words(some, links):
    """The pairs (item, item of the row ahead) that are joined in rows that were taken."""
    often = collections.Counter(two for chain in links for two in zip(chain, chain[1:]))
    told = []
    for ahead, row in zip(some, some[1:]):
        last = -1
        for item in row:
            near = []
            for place, mate in enumerate(ahead):
                near += [place] * (often[item, mate] + often[mate, item])
            if near:
                for place in (near[(len(near) - 1) // 2], near[len(near) // 2]):
                    if place > last:
                        told.append((item, ahead[place]))
                        last = place
                        break
    return told


def blocks_by_words(some, links, way):
    groups = [[item] for row in some for item in row]
    for pair in joins_by_words(taken(some, way), links):
        one, other = [next(group for group in groups if item in group) for item in pair]
        groups.remove(one)
        groups.remove(other)
        groups.append(one + other)
    where = {item: (number, place) for number, row in enumerate(some) for place, item in enumerate(row)}
    groups = [sorted(group, key=where.get) for group in groups]
    return sorted(groups, key=lambda group: where[group[0]])


def wide(item, sizes):
    return sizes[item[1]] if item[0] == 0 else 2


def raised(some, groups, sizes):
    """The least places, by raising blocks as long as an item is too far left."""
    where = {item: 0 for row in some for item in row}
    group_of = {item: group for group in groups for item in group}
    changed = True
    while changed:
        changed = False
        for row in some:
            for left, right in zip(row, row[1:]):
                need = where[left] + wide(left, sizes) + 2
                if where[right] < need:
                    changed = True
                    for item in group_of[right]:
                        where[item] = need
    return where


def placed_by_words(some, links, sizes, way):
    where = raised(taken(some, way), blocks_by_words(some, links, way), sizes)
    if way in (1, 3):
        most = max((place + wide(item, sizes) for item, place in where.items()), default=0)
        where = {item: most - place - wide(item, sizes) for item, place in where.items()}
    return [[where[item] for item in row] for row in some]


def middles_by_words(some, links, sizes):
    """The places in the picture before the least one is taken off."""
    four = [placed_by_words(some, links, sizes, way) for way in range(4)]
    told = []
    for number, row in enumerate(some):
        told.append([])
        for place in range(len(row)):
            by_size = sorted(one[number][place] for one in four)
            told[-1].append((by_size[1] + by_size[2]) // 4 * 2)
    return told


def places_by_words(some, links, sizes):
    told = middles_by_words(some, links, sizes)
    least = min((place for row in told for place in row), default=0)
    return [[place - least for place in row] for row in told]
