"""Longest walks along ties, rings of ties that gain, and the flow of the most worth.

A step is a tuple (start, end, gain, tie, way): from box to box by the tie at a
place, with way 1 as it points, with way -1 against it.
"""

from layerink.rings import path


def steps_by(ties, amounts):
    """Tell the steps along all ties, and against those that have some flow.

    So a walk by these steps may always take flow with it: it puts flow on the
    ties along which it goes, and takes it off those against which it goes.
    """
    steps = []
    for place, (kind, number, one, other, least, weight) in enumerate(ties):
        steps.append((one, other, least, place, 1))
        if amounts[place] > 0:
            steps.append((other, one, -least, place, -1))
    return steps


def longest(boxes, steps, starts):
    """Tell three things of the walks that gain most, from any of the starts.

    First for each box what they gain, None where they don't come; then for each
    box the pair (step, box ahead) by which they came, None where they began or
    don't come; last a box at which they gain for ever, None where there is none.
    """
    gains = [None] * boxes
    came = [None] * boxes
    for box in starts:
        gains[box] = 0
    late = None
    # Without a ring that gains, a longest walk meets no box twice, and so the
    # last trial finds nothing more.
    for trial in range(boxes):
        late = None
        for step in steps:
            start, end, gain, tie, way = step
            if gains[start] is None:
                continue
            if gains[end] is None or gains[end] < gains[start] + gain:
                gains[end] = gains[start] + gain
                came[end] = (step, start)
                late = end
        if late is None:
            break
    return gains, came, late


def gaining_ring(boxes, ties):
    """Tell the places of a ring of ties whose leasts sum up to more than 0, or None."""
    steps = steps_by(ties, [0] * len(ties))
    gains, came, late = longest(boxes, steps, list(range(boxes)))
    if late is None:
        return None
    # The late box may only hang on the ring; so many steps back surely lie on it.
    box = late
    for trial in range(boxes):
        step, box = came[box]
    step, ahead = came[box]
    places = [step[3]]
    while ahead != box:
        step, ahead = came[ahead]
        places.append(step[3])
    return places[::-1]


def needs_by(boxes, ties):
    """Tell for each box the weights of the ties in less those of the ties out."""
    needs = [0] * boxes
    for kind, number, one, other, least, weight in ties:
        needs[one] -= weight
        needs[other] += weight
    return needs


def send(road, needs, amounts):
    """Send as much flow along a row of steps as its two ends need and its ties let."""
    start = road[0][0]
    end = road[-1][1]
    room = [amounts[tie] for begin, goal, gain, tie, way in road if way < 0]
    much = min([-needs[start], needs[end]] + room)
    needs[start] += much
    needs[end] -= much
    for begin, goal, gain, tie, way in road:
        amounts[tie] += way * much


def best_flow(boxes, ties):
    """Tell the flow of the most worth, of ties that don't clash.

    Flow is sent by longest walks only, from boxes that must let some out to
    boxes that must get some. So no ring of steps ever gains, and what was sent
    could not have been sent for more worth.
    """
    amounts = [0] * len(ties)
    needs = needs_by(boxes, ties)
    while any(needs):
        starts = [box for box in range(boxes) if needs[box] < 0]
        gains, came, late = longest(boxes, steps_by(ties, amounts), starts)
        ends = [box for box in range(boxes) if needs[box] > 0 and gains[box] is not None]
        send(path(came, ends[0]), needs, amounts)
    return amounts


def best_layers(boxes, ties):
    """Tell the layering of the least length, of ties that don't clash.

    Each tie with some flow can be walked there and back, so longest walks have
    just its least between its boxes: the length is the flow's worth then.
    """
    steps = steps_by(ties, best_flow(boxes, ties))
    gains, came, late = longest(boxes, steps, list(range(boxes)))
    return gains
