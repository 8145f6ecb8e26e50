"""Crossings of segments between rows."""


def segments_below(rows, chains):
    """Tell for each row the segments to the next one: places in the two rows, and the arrow."""
    where = {}
    for number, row in enumerate(rows):
        for place, item in enumerate(row):
            where[item] = (number, place)
    below = [[] for row in rows]
    for arrow, chain in enumerate(chains):
        for upper, lower in zip(chain, chain[1:]):
            number, place = where[upper]
            below[number].append((place, where[lower][1], arrow))
    return below


def crossed(segments):
    """Count the crossings of segments between two rows."""
    count = 0
    seen = []
    # Sorted, segments from one upper item have rising lower places, so that
    # they don't count among one another.
    for upper, lower, arrow in sorted(segments):
        count += len([earlier for earlier in seen if earlier > lower])
        seen.append(lower)
    return count


def crossings(rows, chains):
    """Count the crossings between all rows."""
    return sum([crossed(segments) for segments in segments_below(rows, chains)])


def between(rows, chains, upper):
    """Count the crossings between the row of a number and the next one, 0 where there is none."""
    if not 0 <= upper < len(rows) - 1:
        return 0
    return crossed(segments_below(rows, chains)[upper])
