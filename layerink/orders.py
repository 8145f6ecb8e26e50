"""Rows put in order, so that fewer segments cross."""

from layerink.chains import neighbours
from layerink.crossings import crossings


def fewer(where, firsts, seconds):
    """Tell how many crossings fewer there are when two items are exchanged.

    Firsts and seconds are the neighbours of the left one and of the right one in
    a row above or below them.
    """
    count = 0
    for one in firsts:
        for other in seconds:
            if where[one] > where[other]:
                count += 1
            elif where[one] < where[other]:
                count -= 1
    return count


def settle(row, where, sides, kept):
    """Exchange items that follow one another while that makes fewer crossings; tell whether it did.

    Where has the place of each item in its row, sides the neighbours on the sides
    that are looked at. Held pairs keep their order, since only items that follow
    one another are exchanged.
    """
    changed = False
    place = 0
    while place < len(row) - 1:
        left, right = row[place], row[place + 1]
        gain = 0
        if (left, right) not in kept:
            gain = sum([fewer(where, side.get(left, []), side.get(right, [])) for side in sides])
        if gain > 0:
            row[place], row[place + 1] = right, left
            where[left], where[right] = place + 1, place
            changed = True
            # The item that went left has a new one ahead of it.
            place = max(place - 1, 0)
        else:
            place += 1
    return changed


def places_in(rows):
    """Tell the place of each item in its row, as a dict."""
    return {item: place for row in rows for place, item in enumerate(row)}


def swept(rows, sides, kept):
    """Tell the rows put in order by those above them, and then by those below them.

    So items go where a row of exchanges that each make fewer crossings would not bring them.
    """
    told = [list(row) for row in rows]
    where = places_in(told)
    above, below = sides
    for row in told:
        settle(row, where, [above], kept)
    for row in told[::-1]:
        settle(row, where, [below], kept)
    return told


def settled(rows, sides, kept):
    """Tell the rows after exchanges that each make fewer crossings, till there is none such."""
    told = [list(row) for row in rows]
    where = places_in(told)
    restless = [True] * len(told)
    while any(restless):
        for number, row in enumerate(told):
            if not restless[number]:
                continue
            restless[number] = False
            if settle(row, where, sides, kept):
                # What is best in a row hangs on the rows above and below it.
                for near in (number - 1, number + 1):
                    if 0 <= near < len(told):
                        restless[near] = True
    return told


def ordered(rows, chains, held=None):
    """Tell the rows so that no exchange of two neighbours, no held pair, makes fewer crossings."""
    kept = {}
    if held is not None:
        kept = {pair: True for pair in held}
    sides = neighbours(chains)
    first = settled(rows, sides, kept)
    second = settled(swept(rows, sides, kept), sides, kept)
    # Only the first one surely has no more crossings than the rows that were handed in.
    return second if crossings(second, chains) < crossings(first, chains) else first
