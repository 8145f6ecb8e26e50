"""Ties, layerings, flows and rings of ties, worked out anew for the tests, and webs for them."""

import random

from layerink.rings import turned
from samples import NAMES


def ties_of(web):
    """The ties as the document words them."""
    some = turned(web)
    told = []
    for place, (one, other, least, weight) in enumerate(web[1]):
        if one != other:
            ends = (other, one) if place in some else (one, other)
            told.append(("arrow", place) + ends + (least, weight))
    return told + [("saying", place) + saying + (0,) for place, saying in enumerate(web[2])]


def keeps(some, layering):
    return all(layering[other] - layering[one] >= least for _, _, one, other, least, _ in some)


def length_of(some, layering):
    return sum(weight * (layering[other] - layering[one]) for _, _, one, other, _, weight in some)


def worth_of(some, flow):
    return sum(much * least for much, (_, _, _, _, least, _) in zip(flow, some, strict=True))


def balances(count, some, amounts):
    """What comes in less what goes out, for each box."""
    sums = [0] * count
    for much, (_, _, one, other, _, _) in zip(amounts, some, strict=True):
        sums[one] -= much
        sums[other] += much
    return sums


def is_flow(count, some, amounts):
    weights = [tie[5] for tie in some]
    return min(amounts, default=0) >= 0 and balances(count, some, amounts) == balances(count, some, weights)


def lots(count, some):
    """The sets of boxes that hang together."""
    groups = [{box} for box in range(count)]
    for _, _, one, other, _, _ in some:
        first = next(group for group in groups if one in group)
        second = next(group for group in groups if other in group)
        if first is not second:
            first |= second
            groups.remove(second)
    return groups


def is_clashing_ring(some, places):
    """Whether places are those of a ring of ties whose leasts sum up to more than 0."""
    if not places or not all(0 <= place < len(some) for place in places):
        return False
    begins = [some[place][2] for place in places]
    ends = [some[place][3] for place in places]
    return begins == ends[-1:] + ends[:-1] and len(set(begins)) == len(begins) and sum(some[place][4] for place in places) > 0


def random_arrows(source, count, many):
    return tuple(
        (source.randrange(count), source.randrange(count), source.randint(1, 3), source.randint(1, 9))
        for _ in range(many)
    )


def roomy_layering(source, web):
    """A layering with more room than needed, of a web without sayings."""
    some = ties_of(web)
    layering = [source.choice([0, 0, 1, 2, 4]) for _ in web[0]]
    while not keeps(some, layering):
        for _, _, one, other, least, _ in some:
            if layering[other] - layering[one] < least:
                layering[other] = layering[one] + least + source.choice([0, 0, 0, 1, 3])
    return layering


def kept_sayings(source, layering, many):
    """Sayings that a layering keeps: loose ones, tight ones, and there and back of one number."""
    told = []
    while len(told) < many and len(layering) > 1:
        one, other = source.sample(range(len(layering)), 2)
        apart = layering[other] - layering[one]
        if not -9 <= apart <= 9:
            told.append((one, other, -9) if apart > 0 else (other, one, 9))
        elif source.random() < 0.3:
            told += [(one, other, apart), (other, one, -apart)]
        else:
            told.append((one, other, source.randint(-9, apart)))
    return tuple(told[:many])


def roomy_webs(count=200, most_boxes=14, seed=5):
    """Pairs of a web and a layering that keeps all its ties, the same ones each time."""
    source = random.Random(seed)
    for number in range(count):
        boxes = number % most_boxes + 1
        arrows = random_arrows(source, boxes, source.randint(0, 2 * boxes))
        if arrows and source.random() < 0.5:
            arrows += tuple(source.choices(arrows, k=2))
        web = (NAMES[:boxes], arrows, ())
        layering = roomy_layering(source, web)
        sayings = kept_sayings(source, layering, source.choice([0, 0, 1, 2, 5, 20]))
        yield (NAMES[:boxes], arrows, sayings), layering


def random_sayings(source, count, many):
    told = []
    while len(told) < many and count > 1:
        told.append((*source.sample(range(count), 2), source.choice([-9, -4, -2, -1, 0, 0, 1, 2, 9])))
    return tuple(told)


def wild_webs(count=300, most_boxes=14, seed=6):
    """Webs whose ties may clash, the same ones each time."""
    source = random.Random(seed)
    for number in range(count):
        boxes = number % most_boxes + 1
        arrows = random_arrows(source, boxes, source.randint(0, boxes + 2))
        yield (NAMES[:boxes], arrows, random_sayings(source, boxes, source.randint(0, min(20, boxes + 2))))


def beside(first, second):
    """Two webs beside one another, as one web."""
    far = len(first[0])
    arrows = tuple((one + far, other + far, least, weight) for one, other, least, weight in second[1])
    sayings = tuple((one + far, other + far, least) for one, other, least in second[2])
    return (NAMES[:far + len(second[0])], first[1] + arrows, first[2] + sayings)
