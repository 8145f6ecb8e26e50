"""Ports, tracks and pictures, worked out anew for the tests."""

from drawings import segments_of
from placings import places_by_words, widths_by_words


def ports_by_words(some, links, columns):
    """The triples (lower port, upper port, arrow) of each row but the last one."""
    where = {}
    for row, line in zip(some, columns, strict=True):
        for place, (item, column) in enumerate(zip(row, line, strict=True)):
            where[item] = (place, column)
    every = segments_of(links)
    told = []
    for row in some[:-1]:
        told.append([])
        for upper, lower, arrow in every:
            if upper not in row:
                continue
            below = sorted((where[end][0], mate) for start, end, mate in every if start == upper)
            above = sorted((where[start][0], mate) for start, end, mate in every if end == lower)
            lower_port = where[upper][1] + 2 * below.index((where[lower][0], arrow))
            upper_port = where[lower][1] + 1 + 2 * above.index((where[upper][0], arrow))
            told[-1].append((lower_port, upper_port, arrow))
        told[-1].sort()
    return told


def columns_of(segment):
    """All columns of a segment, from port to port."""
    return set(range(min(segment[:2]), max(segment[:2]) + 1))


def tracks_by_words(some):
    right = sorted((segment for segment in some if segment[1] > segment[0]), reverse=True)
    left = sorted(segment for segment in some if segment[1] < segment[0])
    numbers = {}
    for segment in right + left:
        ahead = [number for other, number in numbers.items() if columns_of(other) & columns_of(segment)]
        numbers[segment] = max(ahead) + 1 if ahead else 1
    return [numbers[segment] for segment in some]


def stroke_signs(segment, track, last):
    """The signs of a stroke between the first row, 0, and the last one, as a dict by row and column."""
    lower, upper, _ = segment
    right = upper > lower
    signs = {(row, lower): "|" for row in range(track)}
    signs.update({(row, upper): "|" for row in range(track + 1, last + 1)})
    signs.update({(track, column): "-" for column in range(min(lower, upper), max(lower, upper))})
    signs[track, lower] = "L" if right else "J"
    signs[track, upper] = "7" if right else "F"
    return signs


def gap_by_words(web, segments, above, below):
    """The signs between two rows of items, as a dict by row and column, and how many rows they are."""
    if not segments:
        return {}, 0
    numbers = tracks_by_words(segments)
    last = max(numbers) + 1
    signs = {}
    for segment, track in zip(segments, numbers):
        end = (0, web[1][segment[2]][1])
        for (row, column), sign in stroke_signs(segment, track, last).items():
            if row == 0 and end in above:
                sign = "^"
            if row == last and end in below:
                sign = "v"
            signs[row, column] = "+" if (row, column) in signs else sign
    return signs, last + 1


def box_by_words(web, box, size):
    loops = sum(arrow[:2] == (box, box) for arrow in web[1])
    signs = "[" + web[0][box] + "*" * loops
    while len(signs) < size - 1:
        signs += "_"
    return signs + "]"


def picture_by_words(web, layering, some, links):
    sizes = widths_by_words(web, layering)
    columns = places_by_words(some, links, sizes)
    gaps = ports_by_words(some, links, columns)
    signs = {}
    top = 0
    for number, row in enumerate(some):
        for item, column in zip(row, columns[number]):
            text = "FJ" if item[0] else box_by_words(web, item[1], sizes[item[1]])
            signs.update({(top, column + place): sign for place, sign in enumerate(text)})
        top += 1
        if number < len(some) - 1:
            between, many = gap_by_words(web, gaps[number], row, some[number + 1])
            signs.update({(top + line, column): sign for (line, column), sign in between.items()})
            top += many
    lines = []
    for line in range(top):
        wide = max((column + 1 for where, column in signs if where == line), default=0)
        lines.append("".join(signs.get((line, column), " ") for column in range(wide)))
    return "\n".join(lines)


def arrows_by_words(web):
    names, arrows, _ = web
    return sorted(names), sorted((names[one], names[other]) for one, other, _, _ in arrows)
