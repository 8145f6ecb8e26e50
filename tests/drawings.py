"""Rows, chains and the twos of segments that cross, worked out anew for the tests."""

import functools
import itertools
import random

from layerink.chains import chains, rows
from layerink.layers import layers
from layerink.orders import ordered
from layerings import roomy_webs
from samples import mixed_webs


def segments_of(links):
    """The triples (upper item, lower item, arrow) of chains."""
    return [(one, other, arrow) for arrow, chain in enumerate(links) for one, other in zip(chain, chain[1:])]


def between_by_words(some, links, upper):
    """The crossings below a row, by going through all twos of segments."""
    if not 0 <= upper < len(some) - 1:
        return 0
    top = {item: place for place, item in enumerate(some[upper])}
    low = {item: place for place, item in enumerate(some[upper + 1])}
    segments = [(top[one], low[other]) for one, other, _ in segments_of(links) if one in top]
    twos = itertools.combinations(segments, 2)
    return sum((one - mate) * (other - end) < 0 for (one, other), (mate, end) in twos)


def crossings_by_words(some, links):
    return sum(between_by_words(some, links, upper) for upper in range(len(some)))


def in_any_order(source, some):
    return [source.sample(row, len(row)) for row in some]


def plain_drawing(web, layering):
    return rows(web, layering), chains(web, layering)


@functools.cache
def drawings():
    """Tuples (web, layering, rows, chains): told and roomy layerings, plain rows and rows in any order."""
    source = random.Random(13)
    told = []
    for number, (web, layering) in enumerate(roomy_webs()):
        plain, links = plain_drawing(web, layering)
        told.append((web, layering, plain if number % 4 == 0 else in_any_order(source, plain), links))
        layering = layers(web)
        plain, links = plain_drawing(web, layering)
        told.append((web, layering, in_any_order(source, plain), links))
    for web in itertools.islice(mixed_webs(), 0, None, 6):
        layering = layers(web)
        plain, links = plain_drawing(web, layering)
        told.append((web, layering, in_any_order(source, plain), links))
    return told


@functools.cache
def fewer_drawings():
    """The same without most of the great ones, and with every third one in order."""
    told = []
    for number, (web, layering, some, links) in enumerate(drawings()):
        if len(web[0]) <= 25 or number % 5 == 0:
            told.append((web, layering, ordered(some, links) if number % 3 == 1 else some, links))
    return told
