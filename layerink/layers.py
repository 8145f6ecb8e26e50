"""Ties, clashes, and the told layering and flow of a web."""

from layerink.errors import Clash
from layerink.flows import best_flow, best_layers, gaining_ring
from layerink.rings import rings_by_arrow
from layerink.webs import need_web


def ties(web):
    """Tell the tuples (kind, place, one, other, least, weight), arrows first."""
    need_web(web)
    names, arrows, sayings = web
    rings = rings_by_arrow(web)
    told = []
    for place, (one, other, least, weight) in enumerate(arrows):
        if one == other:
            continue
        if place in rings:
            one, other = other, one
        told.append(("arrow", place, one, other, least, weight))
    for place, (one, other, least) in enumerate(sayings):
        told.append(("saying", place, one, other, least, 0))
    return told


def clash(web):
    """Tell the places of a ring of ties that no layering keeps, None where there is none."""
    return gaining_ring(len(web[0]), ties(web))


def ties_to_keep(web):
    """Tell the ties; refuse with Clash where no layering keeps all of them."""
    told = ties(web)
    places = gaining_ring(len(web[0]), told)
    if places is not None:
        raise Clash(places)
    return told


def layers(web):
    """Tell the told layering: the layer of each box."""
    some = ties_to_keep(web)
    return best_layers(len(web[0]), some)


def flow(web):
    """Tell the told flow: a number for each tie."""
    some = ties_to_keep(web)
    return best_flow(len(web[0]), some)


def length(web, layering=None):
    """Tell the length of a layering, of the told one where none is handed in."""
    some = ties_to_keep(web)
    if layering is None:
        layering = best_layers(len(web[0]), some)
    return sum([weight * (layering[other] - layering[one]) for kind, place, one, other, least, weight in some])


def worth(web, flow):
    """Tell the worth of a list of numbers, one for each tie."""
    return sum([much * tie[4] for much, tie in zip(flow, ties(web))])
