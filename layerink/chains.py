"""Items, the chains of arrows, and the plain rows of a layering.

An item is a box, (0, box), or a bend, (1, arrow, layer).
"""

from layerink.webs import need_web


def chain_of(arrow, one, other, layering):
    """Tell the chain of the arrow at a place between two boxes."""
    if one == other:
        return []
    # A turned arrow begins at its lower box, so its layers say which one is the upper.
    upper, lower = (one, other) if layering[one] < layering[other] else (other, one)
    bends = [(1, arrow, layer) for layer in range(layering[upper] + 1, layering[lower])]
    return [(0, upper)] + bends + [(0, lower)]


def chains(web, layering):
    """Tell the chain of each arrow, from its upper box to its lower one."""
    need_web(web)
    return [chain_of(place, arrow[0], arrow[1], layering) for place, arrow in enumerate(web[1])]


def rows(web, layering):
    """Tell the plain rows: in each layer the boxes by places, then the bends by arrows."""
    some = chains(web, layering)
    told = [[] for layer in range(max(layering, default=-1) + 1)]
    for box, layer in enumerate(layering):
        told[layer].append((0, box))
    for chain in some:
        for bend in chain[1:-1]:
            told[bend[2]].append(bend)
    return told


def neighbours(chains):
    """Tell two dicts: for each item those above it, and those below it, as often as segments lead there."""
    above = {}
    below = {}
    for chain in chains:
        for upper, lower in zip(chain, chain[1:]):
            below.setdefault(upper, []).append(lower)
            above.setdefault(lower, []).append(upper)
    return above, below
