"""Pictures of webs in signs, and what is read back from them."""

from layerink.chains import chains
from layerink.places import places, width_of, widths
from layerink.strokes import ports, tracks

# Where a stroke goes on behind a turn: to the right, to the left, or down.
TURNS = {"L": 1, "J": -1, "7": 0, "F": 0}


def blank_line(wide):
    """Tell a row of so many blanks, as a list of signs."""
    return [" "] * wide


def put(line, column, sign):
    """Put a sign of a stroke into a row; where another stroke goes, they cross."""
    line[column] = sign if line[column] == " " else "+"


def signs_of(item, web, sizes):
    """Tell the signs of a box or a bend."""
    if item[0] == 1:
        return "FJ"
    box = item[1]
    loops = len([arrow for arrow in web[1] if arrow[0] == box and arrow[1] == box])
    inside = web[0][box] + "*" * loops
    return "[" + inside.ljust(sizes[box] - 2, "_") + "]"


def layer_line(row, columns, web, sizes, wide):
    """Tell the row of signs of a layer."""
    line = blank_line(wide)
    for item, column in zip(row, columns):
        signs = signs_of(item, web, sizes)
        line[column:column + len(signs)] = list(signs)
    return line


def put_stroke(lines, lower, upper, track):
    """Put a stroke into the rows from the first one to the last one, but for its signs in these two."""
    for line in lines[1:track]:
        put(line, lower, "|")
    lines[track][lower] = "L" if lower < upper else "J"
    for column in range(min(lower, upper) + 1, max(lower, upper)):
        put(lines[track], column, "-")
    lines[track][upper] = "7" if lower < upper else "F"
    for line in lines[track + 1:-1]:
        put(line, upper, "|")


def lines_below(number, segments, web, layering, wide):
    """Tell the rows of signs between the row of a number and the next one."""
    if not segments:
        return []
    numbers = tracks(segments)
    lines = [blank_line(wide) for line in range(max(numbers) + 2)]
    for (lower, upper, arrow), track in zip(segments, numbers):
        # Between two rows a stroke has a head just where the layer in which its arrow ends is one of them.
        end = layering[web[1][arrow][1]]
        lines[0][lower] = "^" if end == number else "|"
        put_stroke(lines, lower, upper, track)
        lines[-1][upper] = "v" if end == number + 1 else "|"
    return lines


def picture(web, layering, rows):
    """Tell the picture of a web whose items stand in rows."""
    links = chains(web, layering)
    sizes = widths(web, layering)
    columns = places(rows, links, sizes)
    ends = [
        column + width_of(item, sizes)
        for row, some in zip(rows, columns)
        for item, column in zip(row, some)
    ]
    wide = max(ends, default=0)
    # Below the last row no segment leads.
    gaps = ports(web, rows, links, columns) + [[]]
    lines = []
    for number, row in enumerate(rows):
        lines.append(layer_line(row, columns[number], web, sizes, wide))
        lines.extend(lines_below(number, gaps[number], web, layering, wide))
    return "\n".join(["".join(line).rstrip(" ") for line in lines])


def boxes_in(line):
    """Tell the boxes in a row of signs: triples (column, column behind it, what is in the brackets)."""
    told = []
    start = line.find("[")
    while start >= 0:
        end = line.find("]", start)
        told.append((start, end + 1, line[start + 1:end]))
        start = line.find("[", end)
    return told


def end_of(lines, owners, number, column):
    """Follow a stroke from below a box, and tell the name of the box to which it comes."""
    step = 0
    while (number, column) not in owners:
        step = TURNS.get(lines[number][column], step)
        if step == 0:
            number += 1
        else:
            column += step
    return owners[(number, column)]


def strokes_below(lines, number, start, end):
    """Tell the columns below a box, from start up to end, at which strokes begin."""
    if number + 1 == len(lines):
        return []
    line = lines[number + 1]
    return [column for column in range(start, min(end, len(line))) if line[column] in ("|", "^")]


def read_picture(text):
    """Tell the names in a picture and the pairs of names of its arrows, both rising."""
    lines = text.split("\n")
    found = [(number, box) for number, line in enumerate(lines) for box in boxes_in(line)]
    names = []
    owners = {}
    pairs = []
    for number, (start, end, inside) in found:
        name = inside.rstrip("*_")
        names.append(name)
        pairs.extend([(name, name)] * inside.count("*"))
        for column in range(start, end):
            owners[(number, column)] = name
    for number, (start, end, inside) in found:
        name = owners[(number, start)]
        for column in strokes_below(lines, number, start, end):
            mate = end_of(lines, owners, number + 1, column)
            pairs.append((mate, name) if lines[number + 1][column] == "^" else (name, mate))
    return sorted(names), sorted(pairs)
