"""Texts of the language: read to webs, and written of webs.

Whatever is read begins at a place in the text, and is told with the place
behind it. Where it can't go on, BadText tells that place; since the end of the
text is a place, too, a text that ends too early is refused with its length.
"""

from layerink.errors import BadText
from layerink.webs import LETTERS, MOST_LETTERS, is_web, need_web

LEASTS = "123"
WEIGHTS = "123456789"
FIGURES = "0123456789"


def is_at(text, at, signs):
    """Tell whether one of some signs is at a place; behind the last sign there is none."""
    return at < len(text) and text[at] in signs


def past_blanks(text, at):
    """Tell the first place from a place on where no blank is."""
    while is_at(text, at, " "):
        at += 1
    return at


def read_name(text, at):
    """Read a name."""
    end = at
    while end < at + MOST_LETTERS and is_at(text, end, LETTERS):
        end += 1
    if end == at:
        raise BadText(at)
    # No letter may stand behind a name, so a seventh one is refused by what is read next.
    return text[at:end], end


def read_group(text, at):
    """Read a group: a list of names."""
    if not is_at(text, at, "("):
        name, at = read_name(text, at)
        return [name], at
    names = []
    more = True
    while more:
        name, at = read_name(text, past_blanks(text, at + 1))
        names.append(name)
        at = past_blanks(text, at)
        if not is_at(text, at, ",)"):
            raise BadText(at)
        more = text[at] == ","
    return names, at + 1


def read_arrow(text, at):
    """Read what stands behind the > of a link: ties of an arrow."""
    least = 1
    weight = 1
    if is_at(text, at, LEASTS):
        least = int(text[at])
        at += 1
    # Any other x begins a name.
    if is_at(text, at, "x") and is_at(text, at + 1, WEIGHTS):
        weight = int(text[at + 1])
        at += 2
    return (">", least, weight), at


def read_saying(text, at):
    """Read what stands behind the < of a link: ties of a saying."""
    below = is_at(text, at, "-")
    if below:
        at += 1
    if not is_at(text, at, FIGURES):
        raise BadText(at)
    least = int(text[at])
    return ("<", -least if below else least, 0), at + 1


def read_link(text, at):
    """Read a link, a tuple (sign, least, weight); the sign ; ties nothing."""
    if is_at(text, at, ">"):
        return read_arrow(text, at + 1)
    if is_at(text, at, "<"):
        return read_saying(text, at + 1)
    if is_at(text, at, "=;"):
        return (text[at], 0, 0), at + 1
    raise BadText(at)


def read_steps(text):
    """Read a text: pairs of a link and the group behind it."""
    steps = []
    at = past_blanks(text, 0)
    # Nothing stands ahead of the first group, just as if a statement ended there.
    link = (";", 0, 0)
    while at < len(text) or steps:
        names, at = read_group(text, at)
        steps.append((link, names))
        at = past_blanks(text, at)
        if at == len(text):
            break
        link, at = read_link(text, at)
        at = past_blanks(text, at)
    return steps


def read_web(text):
    """Read a text to a web."""
    names = []
    arrows = []
    sayings = []
    ahead = []
    for (sign, least, weight), group in read_steps(text):
        for name in group:
            if name not in names:
                names.append(name)
        boxes = [names.index(name) for name in group]
        pairs = [(one, other) for one in ahead for other in boxes]
        if sign == ">":
            arrows.extend([(one, other, least, weight) for one, other in pairs])
        elif sign == "<":
            sayings.extend([(one, other, least) for one, other in pairs])
        elif sign == "=":
            sayings.extend([saying for one, other in pairs for saying in ((one, other, 0), (other, one, 0))])
        ahead = boxes
    web = (tuple(names), tuple(arrows), tuple(sayings))
    if not is_web(web):
        raise BadText(len(text))
    return web


def link_text(least, weight):
    """Tell the link of an arrow, without what is 1."""
    text = ">"
    if least != 1:
        text += str(least)
    if weight != 1:
        text += f"x{weight}"
    return text


def web_text(web):
    """Tell the text of a web."""
    need_web(web)
    names, arrows, sayings = web
    parts = list(names)
    for one, other, least, weight in arrows:
        parts.append(f"{names[one]} {link_text(least, weight)} {names[other]}")
    for one, other, least in sayings:
        parts.append(f"{names[one]} <{least} {names[other]}")
    return "; ".join(parts)
