"""Ports of segments, and the tracks along which they go between two rows."""

from layerink.crossings import segments_below
from layerink.webs import need_web


def ports_along(ends, columns):
    """Tell the port of each arrow at the items of a row, as a dict.

    Ends are triples: the place of an item, that of the item at the other end,
    and the arrow.
    """
    used = [0] * len(columns)
    told = {}
    for place, mate, arrow in sorted(ends):
        told[arrow] = columns[place] + 2 * used[place]
        used[place] += 1
    return told


def ports(web, rows, chains, places):
    """Tell for each row but the last one the triples (lower port, upper port, arrow), rising."""
    need_web(web)
    below = segments_below(rows, chains)
    told = []
    for number in range(len(rows) - 1):
        segments = below[number]
        lower = ports_along(segments, places[number])
        upper = ports_along([(end, start, arrow) for start, end, arrow in segments], places[number + 1])
        told.append(sorted([(lower[arrow], upper[arrow] + 1, arrow) for arrow in lower]))
    return told


def overlap(one, other):
    """Tell whether two segments, by their ports, have a column in common."""
    return max(min(one[:2]), min(other[:2])) <= min(max(one[:2]), max(other[:2]))


def track_order(some):
    """Tell the places of segments in the order in which they get their tracks."""
    rights = [place for place, segment in enumerate(some) if segment[0] < segment[1]]
    lefts = [place for place, segment in enumerate(some) if segment[0] > segment[1]]
    rights = sorted(rights, key=lambda place: -some[place][0])
    return rights + sorted(lefts, key=lambda place: some[place][0])


def tracks(some):
    """Tell the tracks of segments, from 1 on, in the order in which they are handed in."""
    told = [0] * len(some)
    passed = []
    for place in track_order(some):
        near = [told[earlier] for earlier in passed if overlap(some[place], some[earlier])]
        told[place] = max(near, default=0) + 1
        passed.append(place)
    return told
